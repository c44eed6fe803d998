/- Truths in memory: those of a function on the first so many numbers, as values. No condition. -/
import Derived.Test.YtgfpemndbgdhdaaMem
namespace Go.Proofs.Ytgfpemndbgdhdaa
open Go.RowKit
set_option linter.unusedVariables false
set_option linter.unusedSimpArgs false
set_option maxRecDepth 100000

def bl (f : Nat → Bool) (n : Nat) : List Value := (List.range n).map fun j => Value.bool (f j)
theorem bl_length (f : Nat → Bool) (n : Nat) : (bl f n).length = n := by simp [bl]
theorem bl_snoc (f : Nat → Bool) (n : Nat) : bl f (n + 1) = bl f n ++ [Value.bool (f n)] := by simp [bl, List.range_succ]
theorem bl_at (f : Nat → Bool) {n j : Nat} (h : j < n) : (bl f n)[j]? = some (Value.bool (f j)) := by simp [bl, h]
theorem bl_congr {f g : Nat → Bool} {n : Nat} (h : ∀ k, k < n → f k = g k) : bl f n = bl g n := by
  unfold bl
  apply List.map_congr_left
  intro k hk
  rw [h k (by simpa using hk)]
theorem bl_take (f : Nat → Bool) {n m : Nat} (h : m ≤ n) : (bl f n).take m = bl f m := by
  unfold bl
  rw [← List.map_take, List.take_range, Nat.min_eq_left h]
theorem bl_set (f : Nat → Bool) {n k : Nat} (h : k < n) : (bl f n).set k (.bool true) = bl (fun j => decide (j = k) || f j) n := by
  apply List.ext_getElem?
  intro j
  rw [List.getElem?_set]
  by_cases hj : j < n
  · rw [bl_at _ hj, bl_at _ hj, bl_length]
    by_cases e : k = j
    · subst e; simp [h]
    · have : ¬ j = k := fun h => e h.symm
      simp [e, this]
  · rw [List.getElem?_eq_none (by rw [bl_length]; omega), List.getElem?_eq_none (by rw [bl_length]; omega)]
    by_cases e : k = j
    · omega
    · simp [e]
theorem one_bool (b : Bool) : ∀ u ∈ [Value.bool b], u.oneCell' = true := by intro u hu; simp at hu; rw [hu]; rfl
theorem info_bool : (Try.prog.info? 4).map (fun i => (i.zero, i.size, i.bytes)) = some (some (.bool false), 1, 1) := by kernel_rfl
/-- The cell at a place. -/
theorem bl_cell {w : World} {B n : Nat} {A : Option Addr} {f : Nat → Bool} (h : Reads w B 1 A n (bl f n)) {k : Nat} (hk : k < n) : ∃ ad, A = some ad ∧ ad.block < B ∧ w.cell? (ad.add k) = some (.bool (f k)) := by
  obtain ⟨ad, u, rfl, hb, hu, hc⟩ := h.at_ hk
  rw [bl_at f hk] at hu
  obtain rfl := Option.some.inj hu
  exact ⟨ad, rfl, hb, hc⟩
end Go.Proofs.Ytgfpemndbgdhdaa
