/- Rows' form, row by row; bounds. No program; no condition. -/
import Derived.Test.YtieknhhhcjdbnaaDoorJ12
namespace Go.Proofs.YtieknhhhcjdbnaaDoor
open Go.RowKit
set_option linter.unusedVariables false
set_option linter.unusedSimpArgs false
set_option maxRecDepth 100000

/-- Rows' form behind so many rows. -/
def rwF (n : Nat) (l : List (List Vl)) : List Nat := vb n ++ l.flatMap rowB
theorem rwF_all (rows : List (List Vl)) : rwB rows = rwF rows.length rows := rfl
theorem rwF_snoc (n : Nat) (l : List (List Vl)) (r : List Vl) : rwF n (l ++ [r]) = rwF n l ++ rowB r := by simp [rwF]
theorem rowB_one (v : Vl) : rowB [v] = vB v := by simp [rowB]
/-- Rows that are not too long. -/
def Tame (rows : List (List Vl)) : Prop := rows.length ≤ 1000 ∧ ∀ r ∈ rows, r.length ≤ 1000 ∧ ∀ v ∈ r, v.2.2.length ≤ 70000
theorem vB_le {v : Vl} (h : v.2.2.length ≤ 70000) : (vB v).length ≤ 70011 := by
  unfold vB
  split
  · have := (vb_length (zg v.2.1)).2; simp; omega
  · split
    · have := blbT_length (s := v.2.2); simp; omega
    · simp
theorem rowB_le : ∀ {r : List Vl}, (∀ v ∈ r, v.2.2.length ≤ 70000) → (rowB r).length ≤ 70011 * r.length
  | [], _ => by simp [rowB]
  | v :: r, h => by
    have h1 := rowB_le fun u hu => h u (List.mem_cons_of_mem _ hu)
    have h2 := vB_le (h v (List.mem_cons_self ..))
    rw [rowB_cons, List.length_append, List.length_cons]
    omega
theorem rowsB_le : ∀ {l : List (List Vl)}, (∀ r ∈ l, r.length ≤ 1000 ∧ ∀ v ∈ r, v.2.2.length ≤ 70000) → (l.flatMap rowB).length ≤ 70011000 * l.length
  | [], _ => by simp
  | r :: l, h => by
    have h1 := rowsB_le fun u hu => h u (List.mem_cons_of_mem _ hu)
    have h2 := rowB_le (h r (List.mem_cons_self ..)).2
    have h3 := (h r (List.mem_cons_self ..)).1
    rw [List.flatMap_cons, List.length_append, List.length_cons]
    omega
theorem rwF_le {rows : List (List Vl)} (h : Tame rows) (n k : Nat) : (rwF n (rows.take k)).length ≤ 70011000010 := by
  have h1 := rowsB_le (l := rows.take k) fun r hr => h.2 r (List.mem_of_mem_take hr)
  have h2 := (vb_length n).2
  have h3 : (rows.take k).length ≤ 1000 := by rw [List.length_take]; have := h.1; omega
  unfold rwF
  rw [List.length_append]
  omega
end Go.Proofs.YtieknhhhcjdbnaaDoor
