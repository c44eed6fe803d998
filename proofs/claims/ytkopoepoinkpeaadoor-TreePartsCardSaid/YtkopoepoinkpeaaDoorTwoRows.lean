/- Two rows of the call's own, each of which grows while the other stands. No program. -/
import Derived.Test.YtkopoepoinkpeaaDoorWords
namespace Go.Proofs.YtkopoepoinkpeaaDoor
open Go.RowKit
set_option linter.unusedVariables false
set_option linter.unusedSimpArgs false

/-- Two rows from block 'B' on, in blocks of their own. -/
def Two (w : World) (B : Nat) (t : TypeId) (va vb : Value) (n m : Nat) (xs ys : List Value) : Prop :=
  w.ownsRow B t 1 va n xs ∧ w.ownsRow B t 1 vb m ys ∧ (vb.ownBlock = none ∨ vb.ownBlock ≠ va.ownBlock)
theorem Two.nil (w : World) (B : Nat) (t : TypeId) : Two w B t (.slice none 0 0) (.slice none 0 0) 0 0 [] [] := ⟨own_nil _ _ _ _, own_nil _ _ _ _, .inl rfl⟩
theorem Two.swap {w : World} {B : Nat} {t : TypeId} {va vb : Value} {n m : Nat} {xs ys : List Value} (h : Two w B t va vb n m xs ys) : Two w B t vb va m n ys xs := by
  obtain ⟨h1, h2, h3⟩ := h
  refine ⟨h2, h1, ?_⟩
  cases ha : va.ownBlock with
  | none => exact .inl rfl
  | some q =>
    refine .inr fun e => ?_
    rcases h3 with h3 | h3
    · rw [h3] at e; cases e
    · exact h3 (by rw [ha]; exact e.symm)
/-- The first one has grown. -/
theorem Two.grown {w w' : World} {B : Nat} {t : TypeId} {va vb va' : Value} {n m n' : Nat} {xs ys xs' : List Value} {o : Obj} (h : Two w B t va vb n m xs ys)
    (hown : w'.ownsRow B t 1 va' n' xs') (hg : (w.alloc o).grownBy w' va.ownBlock) (hat : va'.ownBlock = va.ownBlock ∨ va'.ownBlock = some (w.alloc o).heap.size) : Two w' B t va' vb n' m xs' ys := by
  obtain ⟨h1, h2, h3⟩ := h
  refine ⟨hown, (h2.alloc o).kept hg h3, ?_⟩
  rcases hat with hat | hat
  · rw [hat]; exact h3
  · cases hb : vb.ownBlock with
    | none => exact .inl rfl
    | some q =>
      refine .inr fun e => ?_
      rw [hat] at e
      injection e with e
      have := (h2.lt q hb).2
      simp at e
      omega
end Go.Proofs.YtkopoepoinkpeaaDoor
