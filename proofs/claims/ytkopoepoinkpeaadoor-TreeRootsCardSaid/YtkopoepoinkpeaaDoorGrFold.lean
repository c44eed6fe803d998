/- What is told of a column as one value: a struct whose last part is an array. No program; no condition. -/
import Derived.Test.YtkopoepoinkpeaaDoorWords
namespace Go.Proofs.YtkopoepoinkpeaaDoor
open Go.RowKit
set_option linter.unusedVariables false
set_option linter.unusedSimpArgs false

theorem fold_set (k : Nat) : ∀ (D : List Value) (i : Nat) (cs : Array Value), k + i + D.length = cs.size → (D.zipIdx i).foldl (fun cs x => cs.setIfInBounds (k + x.2) x.1) cs = (cs.toList.take (k + i) ++ D).toArray
  | [], i, cs, h => by
    simp at h
    rw [List.take_of_length_le (by simp; omega)]
    simp
  | d :: D, i, cs, h => by
    rw [List.length_cons] at h
    rw [List.zipIdx_cons, List.foldl_cons, fold_set k D (i + 1) _ (by simp; omega)]
    congr 1
    rw [show k + (i + 1) = k + i + 1 by omega, List.take_add_one]
    simp only [Array.toList_setIfInBounds]
    rw [List.take_set_of_le (by omega), List.getElem?_set_self (by simp; omega)]
    simp
theorem fold_setT (k : Nat) : ∀ (D : List Value) (i : Nat) (cs : Array Value), k + i + D.length ≤ cs.size → (D.zipIdx i).foldl (fun cs x => cs.setIfInBounds (k + x.2) x.1) cs = (cs.toList.take (k + i) ++ D ++ cs.toList.drop (k + i + D.length)).toArray
  | [], i, cs, h => by simp
  | d :: D, i, cs, h => by
    rw [List.length_cons] at h
    rw [List.zipIdx_cons, List.foldl_cons, fold_setT k D (i + 1) _ (by simp; omega)]
    congr 1
    rw [show k + (i + 1) = k + i + 1 by omega, List.take_add_one, List.length_cons, show k + i + (D.length + 1) = k + i + 1 + D.length by omega]
    simp only [Array.toList_setIfInBounds]
    rw [List.take_set_of_le (by omega), List.getElem?_set_self (by simp; omega), List.drop_set_of_lt (by omega)]
    simp
theorem head_set (a b v v' : Value) (D : List Value) (hD : D.length = 32) : ([a, b] ++ D ++ [v]).toArray.setIfInBounds 34 v' = ([a, b] ++ D ++ [v']).toArray := by
  rw [List.setIfInBounds_toArray]
  congr 1
  rw [List.set_append, if_neg (by simp; omega)]
  simp [hD]
theorem fold_whole (cs F : Array Value) (h : F.size = cs.size) : Array.foldl (fun cs x => cs.setIfInBounds x.2 x.1) cs F.zipIdx 0 F.size = F := by
  have h1 := fold_set 0 F.toList 0 cs (by simp; omega)
  simp only [Nat.zero_add, List.take_zero, List.nil_append] at h1
  rw [show F.size = F.zipIdx.size by simp, ← Array.foldl_toList, Array.toList_zipIdx]
  simpa using h1
theorem reads_whole (W : World) (t : TypeId) (F : Array Value) (l : List Value) (s : Nat) (h : l.toArray = F) (hl : l.length = s) : Reads (W.alloc (.cells F t)) (W.heap.size + 1) s (some ⟨W.heap.size, 0, none⟩) 1 l := by
  subst h
  refine ⟨by omega, fun _ => ⟨_, rfl, Nat.lt_succ_self _, fun j u hu => ?_⟩⟩
  rw [plain_add, Nat.zero_add, (Blk.new W t l.toArray).cell]
  simpa using hu
end Go.Proofs.YtkopoepoinkpeaaDoor
