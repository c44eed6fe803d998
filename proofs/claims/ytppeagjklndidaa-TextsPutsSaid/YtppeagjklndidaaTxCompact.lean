/- Plain facts: texts sorted, then each once, are the rising list of all that are there. No program, no condition. -/
import Derived.Test.YtppeagjklndidaaTxPlain
import Derived.Lib.SlicesCompact
import Derived.Sort.Walk0
namespace Go.Proofs.Ytppeagjklndidaa
open Go.RowKit Go.Lib
set_option linter.unusedVariables false
set_option linter.unusedSimpArgs false

theorem tlt_iff (a b : Tx) : tlt a b ↔ a < b := by unfold tlt; rw [bytesLess_eq]; simp
theorem tle_trans {a b c : Tx} (h1 : ¬ tlt b a) (h2 : ¬ tlt c b) : ¬ tlt c a := by
  intro h
  by_cases e : b = a
  · subst e; exact h2 h
  · exact h2 (tlt_trans h (tlt_total h1 e))
/-- Sorted, with likes. -/
def SortT (d : Array Tx) : Prop := ∀ i j, i ≤ j → j < d.size → ¬ tlt d[j]! d[i]!
theorem compactUpTo_rise (d : Array Tx) (hs : SortT d) : ∀ m, m ≤ d.size → RiseT (compactUpTo d m) ∧ ∀ x, x ∈ compactUpTo d m ↔ ∃ i, i < m ∧ d[i]! = x := by
  intro m
  induction m with
  | zero => intro _; exact ⟨by simp [compactUpTo, RiseT], fun x => by simp [compactUpTo]⟩
  | succ m ih =>
    intro hm
    obtain ⟨i1, i2⟩ := ih (by omega)
    rw [compactUpTo_succ]
    cases hk : keeps d m with
    | false =>
      have h0 : m ≠ 0 ∧ d[m]! = d[m - 1]! := by simpa [keeps] using hk
      simp only [Bool.false_eq_true, if_false, List.append_nil]
      refine ⟨i1, fun x => ?_⟩
      rw [i2]
      constructor
      · rintro ⟨i, hi, e⟩; exact ⟨i, by omega, e⟩
      · rintro ⟨i, hi, e⟩
        by_cases him : i = m
        · subst him; exact ⟨i - 1, by omega, by rw [← h0.2, e]⟩
        · exact ⟨i, by omega, e⟩
    | true =>
      have h0 : m = 0 ∨ ¬ d[m]! = d[m - 1]! := by simpa [keeps] using hk
      simp only [if_true]
      refine ⟨?_, fun x => ?_⟩
      · unfold RiseT
        rw [List.pairwise_append]
        refine ⟨i1, by simp, ?_⟩
        intro x hx y hy
        rw [List.mem_singleton] at hy
        subst hy
        obtain ⟨i, hi, rfl⟩ := (i2 x).1 hx
        have hne : ¬ d[m]! = d[i]! := by
          intro e
          rcases h0 with h0 | h0
          · omega
          · have a1 := hs (m - 1) m (by omega) (by omega)
            have a2 := hs i (m - 1) (by omega) (by omega)
            rw [← e] at a2
            exact h0 (Classical.not_not.1 fun h => a2 (tlt_total a1 h))
        exact tlt_total (hs i m (by omega) (by omega)) hne
      · rw [List.mem_append, i2, List.mem_singleton]
        constructor
        · rintro (⟨i, hi, e⟩ | e)
          · exact ⟨i, by omega, e⟩
          · exact ⟨m, by omega, e.symm⟩
        · rintro ⟨i, hi, e⟩
          by_cases him : i = m
          · subst him; exact .inr e.symm
          · exact .inl ⟨i, by omega, e⟩
theorem compact_sort (l : List Tx) : Lib.compact (l.mergeSort fun x y => decide (x ≤ y)) = lstT l := by
  obtain ⟨s, hs⟩ : ∃ s, s = l.mergeSort fun x y => decide (x ≤ y) := ⟨_, rfl⟩
  have hle : ∀ a b : Tx, decide (a ≤ b) = true ↔ ¬ tlt b a := fun a b => by rw [decide_eq_true_iff, tlt_iff]; exact Iff.rfl
  have hp : s.Pairwise (fun a b => decide (a ≤ b) = true) := by
    rw [hs]
    refine List.pairwise_mergeSort (fun a b c h1 h2 => ?_) (fun a b => ?_) l
    · rw [hle] at *; exact tle_trans h1 h2
    · rw [Bool.or_eq_true, hle, hle]
      by_cases h : tlt b a
      · exact .inr (tlt_asymm h)
      · exact .inl h
  have hso : SortT s.toArray := by
    intro i j hij hj
    have hj' : j < s.length := by simpa using hj
    rw [getElem!_pos s.toArray j hj, getElem!_pos s.toArray i (by omega)]
    simp only [List.getElem_toArray]
    rcases Nat.lt_or_eq_of_le hij with h | h
    · exact (hle _ _).1 (List.pairwise_iff_getElem.1 hp i j (by omega) hj' h)
    · subst h; exact tlt_irrefl _
  obtain ⟨h1, h2⟩ := compactUpTo_rise s.toArray hso s.toArray.size (Nat.le_refl _)
  rw [← hs]
  unfold Lib.compact
  have hsz : s.toArray.size = s.length := by simp
  rw [hsz] at h1 h2
  refine riseT_ext _ _ h1 (lstT_rise l) fun x => ?_
  rw [h2, lstT_mem, ← List.mem_mergeSort (le := fun x y => decide (x ≤ y)), ← hs, List.mem_iff_getElem]
  constructor
  · rintro ⟨i, hi, e⟩
    refine ⟨i, hi, ?_⟩
    rw [getElem!_pos s.toArray i (by simpa using hi)] at e
    simpa using e
  · rintro ⟨i, hi, e⟩
    refine ⟨i, hi, ?_⟩
    rw [getElem!_pos s.toArray i (by simpa using hi)]
    simpa using e
end Go.Proofs.Ytppeagjklndidaa
