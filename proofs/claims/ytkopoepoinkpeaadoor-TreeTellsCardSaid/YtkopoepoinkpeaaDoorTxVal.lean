/- Texts as values, one behind the other. No program; no condition. -/
import Derived.Test.YtkopoepoinkpeaaDoorJ2
import Derived.Sort.EncStr
namespace Go.Proofs.YtkopoepoinkpeaaDoor
open Go.RowKit
set_option linter.unusedVariables false
set_option linter.unusedSimpArgs false
set_option maxRecDepth 100000

/-- Texts as values. -/
def ts (l : List (List UInt8)) : List Value := l.map Go.Proofs.encStr
theorem ts_length (l : List (List UInt8)) : (ts l).length = l.length := by simp [ts]
theorem ts_nil : ts [] = [] := rfl
theorem ts_append (l m : List (List UInt8)) : ts (l ++ m) = ts l ++ ts m := by simp [ts]
theorem ts_take (l : List (List UInt8)) (k : Nat) : (ts l).take k = ts (l.take k) := by simp [ts]
theorem ts_drop (l : List (List UInt8)) (k : Nat) : (ts l).drop k = ts (l.drop k) := by simp [ts]
theorem ts_one (l : List (List UInt8)) : ∀ u ∈ ts l, u.oneCell' = true := by
  intro u hu
  obtain ⟨b, _, rfl⟩ := List.mem_map.1 hu
  rfl
theorem ts_at {l : List (List UInt8)} {k : Nat} {u : Value} (h : (ts l)[k]? = some u) : ∃ b, l[k]? = some b ∧ u = .string ⟨b.toArray⟩ := by
  unfold ts at h
  rw [List.getElem?_map] at h
  cases hb : l[k]? with
  | none => rw [hb] at h; cases h
  | some b => rw [hb] at h; injection h with h; exact ⟨b, rfl, h.symm⟩
theorem ts_get {l : List (List UInt8)} {k : Nat} {z : List UInt8} (h : l[k]? = some z) : (ts l)[k]? = some (.string ⟨z.toArray⟩) := by unfold ts; rw [List.getElem?_map, h]; rfl
theorem ts_snoc (xs : List Value) (l : List (List UInt8)) (b : List UInt8) : xs ++ ts l ++ [Value.string ⟨b.toArray⟩] = xs ++ ts (l ++ [b]) := by simp [ts]
theorem ts_same {x y : List UInt8} : ((⟨x.toArray⟩ : ByteArray) = ⟨y.toArray⟩) ↔ x = y := by
  constructor
  · intro h; have h2 := congrArg (fun b : ByteArray => b.data.toList) h; simpa using h2
  · intro h; rw [h]
theorem size_enc (x : List UInt8) : (⟨x.toArray⟩ : ByteArray).size = x.length := by simp [ByteArray.size]
end Go.Proofs.YtkopoepoinkpeaaDoor
