/- Plain facts: the first place at which something doesn't hold, or -1. No program. -/
import Derived.Test.YtppeagjklndidaaDoorWords
namespace Go.Proofs.YtppeagjklndidaaDoor
open Go.RowKit
set_option linter.unusedVariables false
set_option linter.unusedSimpArgs false

/-- The first place below 'n' at which it doesn't hold, or -1. -/
def missI (f : Nat → Bool) (n : Nat) : Int := match (List.range n).find? (fun j => !f j) with | some j => (j : Int) | none => -1
theorem miss_all {f : Nat → Bool} {n : Nat} : (0 ≤ missI f n) ↔ (List.range n).all f = false := by
  unfold missI
  cases h : (List.range n).find? (fun j => !f j) with
  | none =>
    have h1 := List.find?_eq_none.1 h
    simp only
    constructor
    · intro h2; omega
    · intro h2
      have h3 : (List.range n).all f = true := List.all_eq_true.2 fun x hx => by have := h1 x hx; simpa using this
      rw [h3] at h2; cases h2
  | some j =>
    have h1 := List.find?_some h
    have h2 := List.mem_of_find?_eq_some h
    simp only
    constructor
    · intro _
      refine Bool.eq_false_iff.2 fun h3 => ?_
      have := List.all_eq_true.1 h3 j h2
      rw [this] at h1; cases h1
    · intro _; omega
theorem find_step {f : Nat → Bool} {n : Nat} {k : Nat} (hk : k ≤ n) (h : ∀ j, j < k → f j = true) : (k < n → f k = false → missI f n = (k : Int)) ∧ (k = n → missI f n = -1) := by
  constructor
  · intro hlt hf
    unfold missI
    have e : List.range n = List.range k ++ (List.range (n - k)).map (k + ·) := by
      rw [← List.range_add]; congr 1; omega
    have e1 : (List.range k).find? (fun j => !f j) = none := List.find?_eq_none.2 fun x hx => by
      have := h x (by simpa using hx)
      simp [this]
    have e2 : ((List.range (n - k)).map (k + ·)).find? (fun j => !f j) = some k := by
      obtain ⟨m, hm⟩ : ∃ m, n - k = m + 1 := ⟨n - k - 1, by omega⟩
      rw [hm, List.range_succ_eq_map, List.map_cons, List.find?_cons_of_pos (by simp [hf])]
      rfl
    rw [e, List.find?_append, e1, e2]
    rfl
  · intro he
    subst he
    unfold missI
    rw [List.find?_eq_none.2 fun x hx => by have := h x (by simpa using hx); simp [this]]
end Go.Proofs.YtppeagjklndidaaDoor
