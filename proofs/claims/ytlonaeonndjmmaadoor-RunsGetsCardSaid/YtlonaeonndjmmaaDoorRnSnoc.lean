/- Plain facts on runs: one number more behind. No program, no condition. -/
import Derived.Test.YtlonaeonndjmmaaDoorRnPlain
namespace Go.Proofs.YtlonaeonndjmmaaDoor
open Go.RowKit
set_option linter.unusedVariables false
set_option linter.unusedSimpArgs false
set_option maxRecDepth 100000

theorem good_snoc : ∀ (r : List (Int × Nat)) (x : Int) (m : Nat), Good (r ++ [(x, m)]) ↔ Good r ∧ 0 < m ∧ (r.getLast?.map Prod.fst ≠ some x)
  | [], x, m => by
    show (0 < m ∧ _ ∧ True) ↔ _
    simp [Good]
  | [(y, n)], x, m => by
    show (0 < n ∧ _ ∧ 0 < m ∧ _ ∧ True) ↔ _
    simp [Good]
    intro _
    constructor
    · rintro ⟨h2, h3⟩; exact ⟨h3, fun e => h2 e.symm⟩
    · rintro ⟨h2, h3⟩; exact ⟨fun e => h3 e.symm, h2⟩
  | (y, n) :: q :: r, x, m => by
    have ih := good_snoc (q :: r) x m
    rw [List.getLast?_cons_cons]
    show (0 < n ∧ ((((q :: r) ++ [(x, m)]).head?.map Prod.fst) ≠ some y) ∧ Good ((q :: r) ++ [(x, m)])) ↔ _
    rw [ih]
    rw [show ((q :: r) ++ [(x, m)]).head? = (q :: r).head? from rfl]
    show _ ↔ (0 < n ∧ _ ∧ Good (q :: r)) ∧ _
    constructor
    · rintro ⟨h1, h2, h3, h4, h5⟩; exact ⟨⟨h1, h2, h3⟩, h4, h5⟩
    · rintro ⟨⟨h1, h2, h3⟩, h4, h5⟩; exact ⟨h1, h2, h3, h4, h5⟩
theorem expd_one (x : Int) (m : Nat) : expd [(x, m)] = List.replicate m x := by simp [expd]
/-- The last run goes on. -/
theorem runs_more {l : List Int} {r : List (Int × Nat)} {x : Int} {m : Nat} (h : runs l = r ++ [(x, m)]) : runs (l ++ [x]) = r ++ [(x, m + 1)] := by
  have hg := good_runs l
  rw [h, good_snoc] at hg
  have hl := expd_runs l
  rw [h, expd_append, expd_one] at hl
  have he : l ++ [x] = expd (r ++ [(x, m + 1)]) := by
    rw [expd_append, expd_one, List.replicate_succ', ← List.append_assoc, hl]
  rw [he]
  exact runs_expd _ ((good_snoc _ _ _).2 ⟨hg.1, by omega, hg.2.2⟩)
/-- A new run begins. -/
theorem runs_new {l : List Int} {x : Int} (h : (runs l).getLast?.map Prod.fst ≠ some x) : runs (l ++ [x]) = runs l ++ [(x, 1)] := by
  have he : l ++ [x] = expd (runs l ++ [(x, 1)]) := by
    rw [expd_append, expd_one, expd_runs]; rfl
  rw [he]
  exact runs_expd _ ((good_snoc _ _ _).2 ⟨good_runs l, by omega, h⟩)
/-- Runs as the cells of a row. -/
def rv (r : List (Int × Nat)) : List Value := r.flatMap fun p => [Value.int .i64 p.1, Value.int .i64 (p.2 : Int)]
theorem rv_append (r s : List (Int × Nat)) : rv (r ++ s) = rv r ++ rv s := by simp [rv]
theorem rv_length : ∀ r : List (Int × Nat), (rv r).length = r.length * 2
  | [] => rfl
  | p :: r => by
    have := rv_length r
    show ([_, _] ++ rv r).length = _
    rw [List.length_append, this, List.length_cons]
    simp
    omega
theorem rv_one (r : List (Int × Nat)) : ∀ u ∈ rv r, u.oneCell' = true := by
  intro u hu
  obtain ⟨p, _, hu⟩ := List.mem_flatMap.1 hu
  simp at hu
  rcases hu with rfl | rfl <;> rfl
theorem rv_at : ∀ {r : List (Int × Nat)} {k : Nat} {x : Int} {m : Nat}, r[k]? = some (x, m) → (rv r)[k * 2]? = some (.int .i64 x) ∧ (rv r)[k * 2 + 1]? = some (.int .i64 (m : Int))
  | p :: r, 0, x, m, h => by
    simp at h
    subst h
    exact ⟨rfl, rfl⟩
  | p :: r, k + 1, x, m, h => by
    have ih := rv_at (r := r) (k := k) (by simpa using h)
    rw [show (k + 1) * 2 = k * 2 + 2 by omega]
    exact ⟨by simpa [rv] using ih.1, by simpa [rv] using ih.2⟩
theorem rv_last (r : List (Int × Nat)) (x : Int) (m m' : Nat) : (rv (r ++ [(x, m)])).set (r.length * 2 + 1) (.int .i64 (m' : Int)) = rv (r ++ [(x, m')]) := by
  rw [rv_append, rv_append, List.set_append_right _ _ (by rw [rv_length]; omega), rv_length]
  congr 1
  rw [show r.length * 2 + 1 - r.length * 2 = 1 by omega]
  rfl
end Go.Proofs.YtlonaeonndjmmaaDoor
