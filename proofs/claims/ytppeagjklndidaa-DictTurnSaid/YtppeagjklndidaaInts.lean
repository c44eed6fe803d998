/- Numbers with a sign as values: lists of natural numbers, and of any, in memory. No program, no condition. -/
import Derived.Test.YtppeagjklndidaaWords
namespace Go.Proofs.Ytppeagjklndidaa
open Go.RowKit
set_option linter.unusedVariables false
set_option linter.unusedSimpArgs false
set_option maxRecDepth 100000

def ns (l : List Nat) : List Value := l.map fun b : Nat => Value.int .i64 (b : Int)
def zs (l : List Int) : List Value := l.map (Value.int .i64)
theorem ns_zs (l : List Nat) : ns l = zs (l.map fun b : Nat => (b : Int)) := by unfold ns zs; rw [List.map_map]; rfl
theorem zs_length (l : List Int) : (zs l).length = l.length := by simp [zs]
theorem ns_length (l : List Nat) : (ns l).length = l.length := by simp [ns]
theorem ns_append (l m : List Nat) : ns (l ++ m) = ns l ++ ns m := by simp [ns]
theorem zs_at {l : List Int} {k : Nat} {u : Value} (h : (zs l)[k]? = some u) : ∃ b, l[k]? = some b ∧ u = .int .i64 b := by
  unfold zs at h
  rw [List.getElem?_map] at h
  cases hb : l[k]? with
  | none => rw [hb] at h; cases h
  | some b => rw [hb] at h; injection h with h; exact ⟨b, rfl, h.symm⟩
theorem ns_at {l : List Nat} {k : Nat} {u : Value} (h : (ns l)[k]? = some u) : ∃ b, l[k]? = some b ∧ u = .int .i64 (b : Int) := by
  unfold ns at h
  rw [List.getElem?_map] at h
  cases hb : l[k]? with
  | none => rw [hb] at h; cases h
  | some b => rw [hb] at h; injection h with h; exact ⟨b, rfl, h.symm⟩
end Go.Proofs.Ytppeagjklndidaa
