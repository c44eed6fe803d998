/- Plain facts on reading the form of runs: how often and the number, two by two; where it ends, and why. -/
import Derived.Test.YtlonaeonndjmmaaDoorPlRead
import Derived.Test.YtlonaeonndjmmaaDoorRnSnoc
namespace Go.Proofs.YtlonaeonndjmmaaDoor
open Go.RowKit
set_option linter.unusedVariables false
set_option linter.unusedSimpArgs false
set_option maxRecDepth 100000

/-- How often, less 1, and the number, of the run with that index. -/
def how (b : List Nat) (k : Nat) : Nat := vv b (2 * k)
def num (b : List Nat) (k : Nat) : Int := zagI (vv b (2 * k + 1) : Int)
/-- The first so many runs that are read, and how many numbers they have. -/
def rr (b : List Nat) (k : Nat) : List (Int × Nat) := (List.range k).map fun j => (num b j, how b j + 1)
def tot (b : List Nat) (k : Nat) : Nat := (expd (rr b k)).length
/-- The number of the run ahead. -/
def ahd (b : List Nat) (k : Nat) : Int := if k = 0 then 0 else num b (k - 1)
theorem rr_succ (b : List Nat) (k : Nat) : rr b (k + 1) = rr b k ++ [(num b k, how b k + 1)] := by simp [rr, List.range_succ]
theorem rr_length (b : List Nat) (k : Nat) : (rr b k).length = k := by simp [rr]
theorem tot_zero (b : List Nat) : tot b 0 = 0 := rfl
theorem tot_succ (b : List Nat) (k : Nat) : tot b (k + 1) = tot b k + (how b k + 1) := by
  unfold tot
  rw [rr_succ, expd_append, expd_one, List.length_append, List.length_replicate]
theorem tot_ge (b : List Nat) (k : Nat) : k ≤ tot b k := by
  induction k with
  | zero => exact Nat.zero_le _
  | succ k ih => rw [tot_succ]; omega
theorem ahd_succ (b : List Nat) (k : Nat) : ahd b (k + 1) = num b k := by unfold ahd; rw [if_neg (by omega)]; rfl
/-- What is wrong with the run with that index: 0: nothing. -/
def rBad (b : List Nat) (N k : Nat) : Int :=
  match (vst b (2 * k + 2)).2 with
  | some y => y.1
  | none => if N - tot b k ≤ how b k then 5 else if 0 < k ∧ num b k = ahd b k then 4 else 0
/-- Is there a run with that index, and is it right? -/
def rGo (b : List Nat) (N k : Nat) : Prop := tot b k < N ∧ rBad b N k = 0
instance (b : List Nat) (N k : Nat) : Decidable (rGo b N k) := by unfold rGo; exact inferInstance
def rStop (b : List Nat) (N : Nat) : Nat → Nat → Nat
  | 0, k => k
  | f + 1, k => if rGo b N k then rStop b N f (k + 1) else k
theorem rStop_spec (b : List Nat) (N : Nat) : ∀ f k, k ≤ rStop b N f k ∧ (∀ j, k ≤ j → j < rStop b N f k → rGo b N j) ∧ (N ≤ f + k → ¬ rGo b N (rStop b N f k))
  | 0, k => ⟨Nat.le_refl _, fun j h1 h2 => by have : j < k := h2; omega, fun h => by
      intro hg
      have h1 : tot b k < N := hg.1
      have := tot_ge b k
      omega⟩
  | f + 1, k => by
    obtain ⟨h1, h2, h3⟩ := rStop_spec b N f (k + 1)
    unfold rStop
    by_cases hg : rGo b N k
    · rw [if_pos hg]
      refine ⟨by omega, fun j h4 h5 => ?_, fun h => h3 (by omega)⟩
      rcases Nat.lt_or_ge k j with h6 | h6
      · exact h2 j (by omega) h5
      · obtain rfl : j = k := by omega
        exact hg
    · rw [if_neg hg]
      exact ⟨Nat.le_refl _, fun j h4 h5 => by omega, fun _ => hg⟩
/-- How many runs are right, one behind the other. -/
def rK (b : List Nat) (N : Nat) : Nat := rStop b N N 0
theorem rK_go {b : List Nat} {N j : Nat} (h : j < rK b N) : rGo b N j := (rStop_spec b N N 0).2.1 j (Nat.zero_le _) h
theorem rK_end (b : List Nat) (N : Nat) : ¬ rGo b N (rK b N) := (rStop_spec b N N 0).2.2 (by omega)
theorem rK_lt {b : List Nat} {N k : Nat} (hk : k ≤ rK b N) (h : rGo b N k) : k < rK b N := by
  rcases Nat.lt_or_ge k (rK b N) with h1 | h1
  · exact h1
  · obtain rfl : k = rK b N := by omega
    exact absurd h (rK_end b N)
theorem go_is {b : List Nat} {N k : Nat} (h : rGo b N k) : tot b k < N ∧ (vst b (2 * k + 2)).2 = none ∧ how b k < N - tot b k ∧ ¬ (0 < k ∧ num b k = ahd b k) := by
  obtain ⟨h1, h2⟩ := h
  refine ⟨h1, ?_⟩
  unfold rBad at h2
  cases hx : (vst b (2 * k + 2)).2 with
  | some y =>
    rw [hx] at h2
    exact absurd h2 (vst_ok b _ y hx)
  | none =>
    rw [hx] at h2
    simp only at h2
    by_cases h3 : N - tot b k ≤ how b k
    · rw [if_pos h3] at h2; cases h2
    · rw [if_neg h3] at h2
      by_cases h4 : 0 < k ∧ num b k = ahd b k
      · rw [if_pos h4] at h2; cases h2
      · exact ⟨rfl, by omega, h4⟩
theorem go_of {b : List Nat} {N k : Nat} (h1 : tot b k < N) (h2 : (vst b (2 * k + 2)).2 = none) (h3 : ¬ N - tot b k ≤ how b k) (h4 : ¬ (0 < k ∧ num b k = ahd b k)) : rGo b N k := by
  refine ⟨h1, ?_⟩
  unfold rBad
  rw [h2]
  simp only
  rw [if_neg h3, if_neg h4]
/-- As long as runs are right the reader has no error, and they aren't beyond the count. -/
theorem rK_none {b : List Nat} {N : Nat} : ∀ k, k ≤ rK b N → (vst b (2 * k)).2 = none ∧ tot b k ≤ N
  | 0, _ => ⟨rfl, Nat.zero_le _⟩
  | k + 1, h => by
    have hg := go_is (rK_go (b := b) (N := N) (j := k) (by omega))
    refine ⟨hg.2.1, ?_⟩
    rw [tot_succ]
    omega
theorem rr_good {b : List Nat} {N : Nat} : ∀ k, k ≤ rK b N → Good (rr b k) ∧ (0 < k → (rr b k).getLast?.map Prod.fst = some (ahd b k))
  | 0, _ => ⟨trivial, fun h => absurd h (by omega)⟩
  | k + 1, h => by
    obtain ⟨h1, h2⟩ := rr_good (b := b) (N := N) k (by omega)
    have hg := go_is (rK_go (b := b) (N := N) (j := k) (by omega))
    rw [rr_succ]
    refine ⟨(good_snoc _ _ _).2 ⟨h1, by omega, ?_⟩, fun _ => by rw [ahd_succ]; simp⟩
    rcases Nat.eq_zero_or_pos k with rfl | h3
    · simp [rr]
    · rw [h2 h3]
      intro e
      injection e with e
      exact hg.2.2.2 ⟨h3, e.symm⟩
/-- The error's number of reading, and the numbers. -/
def rEnd (b : List Nat) (N : Nat) : Int := if tot b (rK b N) < N then rBad b N (rK b N) else (endS b (vst b (2 * rK b N)).1 none).1
def rE (b : List Nat) (k : Int) : Int := if k < 0 ∨ 65536 < k then 1 else rEnd b k.toNat
def rS (b : List Nat) (k : Int) : List Int := if rE b k = 0 then expd (rr b (rK b k.toNat)) else []
theorem rBad_end {b : List Nat} {N : Nat} (h : tot b (rK b N) < N) : rBad b N (rK b N) ≠ 0 := fun e => rK_end b N ⟨h, e⟩
/-- It goes well just if all numbers are there and no byte is left. -/
theorem rEnd_ok {b : List Nat} {N : Nat} (h : rEnd b N = 0) : tot b (rK b N) = N ∧ ¬ (vst b (2 * rK b N)).1 < b.length := by
  unfold rEnd at h
  have h1 := (rK_none (b := b) (N := N) _ (Nat.le_refl _)).2
  by_cases h2 : tot b (rK b N) < N
  · rw [if_pos h2] at h
    exact absurd h (rBad_end h2)
  · rw [if_neg h2, endS_none] at h
    refine ⟨by omega, fun h3 => ?_⟩
    rw [if_pos h3] at h
    cases h
theorem num_in {b : List Nat} (hb : ∀ x ∈ b, x < 256) (k : Nat) : In64 (num b k) := zagI_in (vv_lt hb _)
theorem expd_mem {r : List (Int × Nat)} {z : Int} (h : z ∈ expd r) : ∃ p ∈ r, p.1 = z := by
  obtain ⟨p, hp, hz⟩ := List.mem_flatMap.1 h
  exact ⟨p, hp, (List.eq_of_mem_replicate hz).symm⟩
theorem expd_in {b : List Nat} (hb : ∀ x ∈ b, x < 256) (k : Nat) : ∀ z ∈ expd (rr b k), In64 z := by
  intro z hz
  obtain ⟨p, hp, rfl⟩ := expd_mem hz
  unfold rr at hp
  obtain ⟨j, _, rfl⟩ := List.mem_map.1 hp
  exact num_in hb j
theorem ilv_rr (b : List Nat) : ∀ k, ilv (rr b k) = getL b (2 * k)
  | 0 => rfl
  | k + 1 => by
    rw [rr_succ, ilv_append, ilv_rr b k, show 2 * (k + 1) = 2 * k + 1 + 1 by omega, getL_succ, getL_succ]
    show _ ++ [zagI ((how b k + 1 - 1 : Nat) : Int), num b k] = _
    rw [List.append_assoc]
    rfl
/-- What is read is put as it was. -/
theorem rn_put_get (b : List Nat) (hb : ∀ x ∈ b, x < 256) (k : Int) (h : rE b k = 0) :
    0 ≤ k ∧ k ≤ 65536 ∧ rf (runs (rS b k)) = b ∧ ((rS b k).length : Int) = k ∧ ∀ z ∈ rS b k, In64 z := by
  have hk : ¬ (k < 0 ∨ 65536 < k) := by
    intro e
    unfold rE at h
    rw [if_pos e] at h
    cases h
  have hS : rS b k = expd (rr b (rK b k.toNat)) := by unfold rS; rw [if_pos h]
  unfold rE at h
  rw [if_neg hk] at h
  obtain ⟨h1, h2⟩ := rEnd_ok h
  obtain ⟨h3, h4⟩ := rK_none (b := b) (N := k.toNat) _ (Nat.le_refl _)
  obtain ⟨h5, h6⟩ := put_prefix b hb _ h3
  rw [hS]
  refine ⟨by omega, by omega, ?_, ?_, expd_in hb _⟩
  · rw [runs_expd _ (rr_good _ (Nat.le_refl _)).1]
    unfold rf
    rw [ilv_rr, h6, List.take_of_length_le (by omega)]
  · have : (expd (rr b (rK b k.toNat))).length = k.toNat := h1
    omega
end Go.Proofs.YtlonaeonndjmmaaDoor
