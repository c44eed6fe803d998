/- Plain facts on runs: a list's runs, each as long as may be; the list that runs make; the form of runs. No program, no condition. -/
import Derived.Test.YtieknhhhcjdbnaaPlPlain
namespace Go.Proofs.Ytieknhhhcjdbnaa
open Go.RowKit
set_option linter.unusedVariables false
set_option linter.unusedSimpArgs false
set_option maxRecDepth 100000

/-- One number more ahead. -/
def runC (x : Int) : List (Int × Nat) → List (Int × Nat)
  | [] => [(x, 1)]
  | (y, n) :: r => if y = x then (x, n + 1) :: r else (x, 1) :: (y, n) :: r
theorem runC_cons (x y : Int) (n : Nat) (r : List (Int × Nat)) : runC x ((y, n) :: r) = if y = x then (x, n + 1) :: r else (x, 1) :: (y, n) :: r := rfl
/-- The runs of a list. -/
def runs : List Int → List (Int × Nat)
  | [] => []
  | x :: l => runC x (runs l)
/-- What runs make. -/
def expd (r : List (Int × Nat)) : List Int := r.flatMap fun p => List.replicate p.2 p.1
/-- Runs that are runs of a list: none is empty, none has its neighbour's number. -/
def Good : List (Int × Nat) → Prop
  | [] => True
  | (x, n) :: r => 0 < n ∧ (r.head?.map Prod.fst ≠ some x) ∧ Good r
theorem expd_cons (p : Int × Nat) (r : List (Int × Nat)) : expd (p :: r) = List.replicate p.2 p.1 ++ expd r := by simp [expd]
theorem expd_append (r s : List (Int × Nat)) : expd (r ++ s) = expd r ++ expd s := by simp [expd]
theorem runC_expd (x : Int) (r : List (Int × Nat)) : expd (runC x r) = x :: expd r := by
  cases r with
  | nil => rfl
  | cons p r =>
    obtain ⟨y, n⟩ := p
    rw [runC_cons]
    split
    · rename_i h; subst h
      rw [expd_cons, expd_cons]; rfl
    · rw [expd_cons]; rfl
theorem expd_runs : ∀ l : List Int, expd (runs l) = l
  | [] => rfl
  | x :: l => by show expd (runC x (runs l)) = _; rw [runC_expd, expd_runs l]
theorem runC_good (x : Int) {r : List (Int × Nat)} (h : Good r) : Good (runC x r) := by
  cases r with
  | nil => exact ⟨by omega, by simp, trivial⟩
  | cons p r =>
    obtain ⟨y, n⟩ := p
    rw [runC_cons]
    split
    · rename_i e; subst e
      exact ⟨by omega, h.2.1, h.2.2⟩
    · rename_i e
      exact ⟨by omega, by simpa using e, h⟩
theorem good_runs : ∀ l : List Int, Good (runs l)
  | [] => trivial
  | x :: l => runC_good x (good_runs l)
theorem runC_rep (x : Int) (r : List (Int × Nat)) (h : r.head?.map Prod.fst ≠ some x) : runC x r = (x, 1) :: r := by
  cases r with
  | nil => rfl
  | cons p r =>
    obtain ⟨y, n⟩ := p
    rw [runC_cons]
    rw [if_neg (by simpa using h)]
theorem runs_rep (x : Int) (l : List Int) (h : (runs l).head?.map Prod.fst ≠ some x) : ∀ n, runs (List.replicate (n + 1) x ++ l) = (x, n + 1) :: runs l
  | 0 => runC_rep x _ h
  | n + 1 => by
    show runC x (runs (List.replicate (n + 1) x ++ l)) = _
    rw [runs_rep x l h n]
    rw [runC_cons]
    rw [if_pos rfl]
/-- The runs of what good runs make are those. -/
theorem runs_expd : ∀ r, Good r → runs (expd r) = r
  | [], _ => rfl
  | (x, n) :: r, h => by
    have ih := runs_expd r h.2.2
    obtain ⟨m, rfl⟩ : ∃ m, n = m + 1 := ⟨n - 1, by have := h.1; omega⟩
    rw [expd_cons, runs_rep x _ (by rw [ih]; exact h.2.1) m, ih]
theorem runC_head (x : Int) (r : List (Int × Nat)) : ((runC x r).head?.map Prod.fst) = some x := by
  cases r with
  | nil => rfl
  | cons p r => obtain ⟨y, n⟩ := p; rw [runC_cons]; split <;> rfl
theorem runs_head (l : List Int) : (runs l).head?.map Prod.fst = l.head? := by
  cases l with
  | nil => rfl
  | cons x l => exact runC_head x _
/-- How many runs a list has. -/
def rc (l : List Int) : Nat := (runs l).length
theorem rc_nil : rc [] = 0 := rfl
theorem rc_cons (x : Int) (l : List Int) : rc (x :: l) = rc l + if l.head? = some x then 0 else 1 := by
  have h := runs_head l
  unfold rc
  show (runC x (runs l)).length = _
  rw [← h]
  cases hr : runs l with
  | nil => rfl
  | cons p r =>
    obtain ⟨y, n⟩ := p
    rw [runC_cons]
    by_cases e : y = x
    · rw [if_pos e, if_pos (by simp [e])]; rfl
    · rw [if_neg e, if_neg (by simpa using e)]; rfl
theorem rc_le : ∀ l : List Int, rc l ≤ l.length
  | [] => Nat.le_refl _
  | x :: l => by
    have := rc_le l
    rw [rc_cons, List.length_cons]; split <;> omega
theorem rc_rep (v : Int) : ∀ n, rc (List.replicate n v) = min 1 n
  | 0 => rfl
  | n + 1 => by
    have := runs_rep v [] (by simp [runs]) n
    rw [List.append_nil] at this
    unfold rc
    rw [this]
    show 1 = _
    omega
/-- Two lists, one behind the other. -/
theorem rc_parts (b : List Int) (hb : b ≠ []) : ∀ a : List Int, a ≠ [] → rc (a ++ b) + (if a.getLast? = b.head? then 1 else 0) = rc a + rc b
  | [], h => absurd rfl h
  | [x], _ => by
    have e : rc [x] = 1 := rfl
    rw [List.singleton_append, rc_cons, e]
    rw [show ([x] : List Int).getLast? = some x from rfl]
    by_cases h : b.head? = some x
    · rw [if_pos h, if_pos h.symm]; omega
    · rw [if_neg h, if_neg (fun k => h k.symm)]; omega
  | x :: y :: a, _ => by
    have ih := rc_parts b hb (y :: a) (by simp)
    rw [List.cons_append, rc_cons, rc_cons x (y :: a), List.getLast?_cons_cons]
    rw [show ((y :: a) ++ b).head? = (y :: a).head? from rfl]
    omega
/-! Runs by index: where each begins. -/
/-- How many numbers the first so many runs have. -/
def pos (r : List (Int × Nat)) (k : Nat) : Nat := (expd (r.take k)).length
theorem pos_zero (r : List (Int × Nat)) : pos r 0 = 0 := rfl
theorem pos_succ {r : List (Int × Nat)} {k : Nat} {x : Int} {n : Nat} (h : r[k]? = some (x, n)) : pos r (k + 1) = pos r k + n := by
  unfold pos
  rw [List.take_add_one, h, expd_append, List.length_append]
  show _ + (expd [(x, n)]).length = _
  rw [expd_cons]
  simp [expd]
theorem pos_all (l : List Int) : pos (runs l) (rc l) = l.length := by
  unfold pos rc
  rw [List.take_length, expd_runs]
theorem good_at : ∀ {r : List (Int × Nat)} {k : Nat} {x : Int} {n : Nat}, Good r → r[k]? = some (x, n) → 0 < n ∧ ((r.drop (k + 1)).head?.map Prod.fst ≠ some x)
  | p :: r, 0, x, n, h, e => by
    simp at e
    subst e
    exact ⟨h.1, by simpa using h.2.1⟩
  | p :: r, k + 1, x, n, h, e => by
    have := good_at (r := r) (k := k) h.2.2 (by simpa using e)
    simpa using this
theorem expd_head : ∀ {r : List (Int × Nat)}, Good r → (expd r).head? = r.head?.map Prod.fst
  | [], _ => rfl
  | (x, n) :: r, h => by
    obtain ⟨m, rfl⟩ : ∃ m, n = m + 1 := ⟨n - 1, by have := h.1; omega⟩
    rw [expd_cons]; rfl
theorem good_drop : ∀ {r : List (Int × Nat)} (k : Nat), Good r → Good (r.drop k)
  | r, 0, h => h
  | [], k + 1, _ => trivial
  | p :: r, k + 1, h => good_drop (r := r) k h.2.2
/-- A run stands in its list: there, so often, and no longer. -/
theorem run_at {l : List Int} {k : Nat} {x : Int} {n : Nat} (h : (runs l)[k]? = some (x, n)) :
    0 < n ∧ pos (runs l) k + n ≤ l.length ∧ (∀ j, j < n → l[pos (runs l) k + j]? = some x) ∧ (∀ z, l[pos (runs l) k + n]? = some z → z ≠ x) := by
  obtain ⟨hk, _⟩ := List.getElem?_eq_some_iff.1 h
  obtain ⟨h1, h2⟩ := good_at (good_runs l) h
  have hs : l = expd ((runs l).take k) ++ (List.replicate n x ++ expd ((runs l).drop (k + 1))) := by
    have e1 : runs l = (runs l).take k ++ ((x, n) :: (runs l).drop (k + 1)) := by
      have e2 : (runs l).drop k = (x, n) :: (runs l).drop (k + 1) := by
        rw [List.drop_eq_getElem_cons hk, (List.getElem?_eq_some_iff.1 h).2]
      rw [← e2, List.take_append_drop]
    have := expd_runs l
    rw [e1, expd_append, expd_cons] at this
    exact this.symm
  obtain ⟨q, hq⟩ : ∃ q, q = pos (runs l) k := ⟨_, rfl⟩
  have hp : (expd ((runs l).take k)).length = q := by rw [hq]; rfl
  have hd : (expd ((runs l).drop (k + 1))).head? ≠ some x := by rw [expd_head (good_drop _ (good_runs l))]; exact h2
  rw [← hq]
  refine ⟨h1, ?_, ?_, ?_⟩
  · have := congrArg List.length hs
    rw [List.length_append, List.length_append, List.length_replicate, hp] at this
    omega
  · intro j hj
    have e := congrArg (fun m : List Int => m[q + j]?) hs
    rw [e, List.getElem?_append_right (by omega), hp, Nat.add_sub_cancel_left, List.getElem?_append_left (by simpa using hj), List.getElem?_replicate, if_pos hj]
  · intro z hz e
    subst e
    have e := congrArg (fun m : List Int => m[q + n]?) hs
    rw [e, List.getElem?_append_right (by omega), hp, Nat.add_sub_cancel_left, List.getElem?_append_right (by simp), List.length_replicate, Nat.sub_self] at hz
    rw [List.head?_eq_getElem?] at hd
    exact hd hz
theorem pos_lt {l : List Int} {k : Nat} (h : k < rc l) : pos (runs l) k < l.length := by
  have := run_at (l := l) (k := k) (x := ((runs l)[k]'h).1) (n := ((runs l)[k]'h).2) (List.getElem?_eq_getElem h)
  omega
/-! The form of runs. -/
/-- How often, less 1, and the number, as they stand one behind the other. -/
def ilv (r : List (Int × Nat)) : List Int := r.flatMap fun p => [zagI ((p.2 - 1 : Nat) : Int), p.1]
/-- The form of runs. -/
def rf (r : List (Int × Nat)) : List Nat := pl (ilv r)
theorem ilv_append (r s : List (Int × Nat)) : ilv (r ++ s) = ilv r ++ ilv s := by simp [ilv]
theorem ilv_length : ∀ r : List (Int × Nat), (ilv r).length = 2 * r.length
  | [] => rfl
  | p :: r => by
    have := ilv_length r
    show ([_, _] ++ ilv r).length = _
    rw [List.length_append, this, List.length_cons]
    simp
    omega
theorem rf_step {r : List (Int × Nat)} {k : Nat} {x : Int} {n : Nat} (h : r[k]? = some (x, n)) : rf (r.take (k + 1)) = rf (r.take k) ++ (vb (n - 1) ++ vb (zg x)) := by
  unfold rf
  rw [List.take_add_one, h, ilv_append, pl_append]
  congr 1
  show pl [zagI ((n - 1 : Nat) : Int), x] = _
  rw [pl_cons, pl_one, zg_zagI]
theorem rf_length (r : List (Int × Nat)) : (rf r).length ≤ 20 * r.length := by
  have := (pl_length (ilv r)).2
  rw [ilv_length] at this
  unfold rf
  omega
end Go.Proofs.Ytieknhhhcjdbnaa
