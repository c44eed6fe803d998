/- Texts joined: RnPlain Arith64 DlPlain. -/
import Derived.Test.YtieknhhhcjdbnaaDoorJ7
/- Plain facts on runs: a list's runs, each as long as may be; the list that runs make; the form of runs. No program, no condition. -/
namespace Go.Proofs.YtieknhhhcjdbnaaDoor
open Go.RowKit
set_option linter.unusedVariables false
set_option linter.unusedSimpArgs false
set_option maxRecDepth 100000

/-- One number more ahead. -/
def runC (x : Int) : List (Int × Nat) → List (Int × Nat)
  | [] => [(x, 1)]
  | (y, n) :: r => if y = x then (x, n + 1) :: r else (x, 1) :: (y, n) :: r
theorem runC_cons (x y : Int) (n : Nat) (r : List (Int × Nat)) : runC x ((y, n) :: r) = if y = x then (x, n + 1) :: r else (x, 1) :: (y, n) :: r := rfl
/-- The runs of a list. -/
def runs : List Int → List (Int × Nat)
  | [] => []
  | x :: l => runC x (runs l)
/-- What runs make. -/
def expd (r : List (Int × Nat)) : List Int := r.flatMap fun p => List.replicate p.2 p.1
/-- Runs that are runs of a list: none is empty, none has its neighbour's number. -/
def Good : List (Int × Nat) → Prop
  | [] => True
  | (x, n) :: r => 0 < n ∧ (r.head?.map Prod.fst ≠ some x) ∧ Good r
theorem expd_cons (p : Int × Nat) (r : List (Int × Nat)) : expd (p :: r) = List.replicate p.2 p.1 ++ expd r := by simp [expd]
theorem expd_append (r s : List (Int × Nat)) : expd (r ++ s) = expd r ++ expd s := by simp [expd]
theorem runC_expd (x : Int) (r : List (Int × Nat)) : expd (runC x r) = x :: expd r := by
  cases r with
  | nil => rfl
  | cons p r =>
    obtain ⟨y, n⟩ := p
    rw [runC_cons]
    split
    · rename_i h; subst h
      rw [expd_cons, expd_cons]; rfl
    · rw [expd_cons]; rfl
theorem expd_runs : ∀ l : List Int, expd (runs l) = l
  | [] => rfl
  | x :: l => by show expd (runC x (runs l)) = _; rw [runC_expd, expd_runs l]
theorem runC_good (x : Int) {r : List (Int × Nat)} (h : Good r) : Good (runC x r) := by
  cases r with
  | nil => exact ⟨by omega, by simp, trivial⟩
  | cons p r =>
    obtain ⟨y, n⟩ := p
    rw [runC_cons]
    split
    · rename_i e; subst e
      exact ⟨by omega, h.2.1, h.2.2⟩
    · rename_i e
      exact ⟨by omega, by simpa using e, h⟩
theorem good_runs : ∀ l : List Int, Good (runs l)
  | [] => trivial
  | x :: l => runC_good x (good_runs l)
theorem runC_rep (x : Int) (r : List (Int × Nat)) (h : r.head?.map Prod.fst ≠ some x) : runC x r = (x, 1) :: r := by
  cases r with
  | nil => rfl
  | cons p r =>
    obtain ⟨y, n⟩ := p
    rw [runC_cons]
    rw [if_neg (by simpa using h)]
theorem runs_rep (x : Int) (l : List Int) (h : (runs l).head?.map Prod.fst ≠ some x) : ∀ n, runs (List.replicate (n + 1) x ++ l) = (x, n + 1) :: runs l
  | 0 => runC_rep x _ h
  | n + 1 => by
    show runC x (runs (List.replicate (n + 1) x ++ l)) = _
    rw [runs_rep x l h n]
    rw [runC_cons]
    rw [if_pos rfl]
/-- The runs of what good runs make are those. -/
theorem runs_expd : ∀ r, Good r → runs (expd r) = r
  | [], _ => rfl
  | (x, n) :: r, h => by
    have ih := runs_expd r h.2.2
    obtain ⟨m, rfl⟩ : ∃ m, n = m + 1 := ⟨n - 1, by have := h.1; omega⟩
    rw [expd_cons, runs_rep x _ (by rw [ih]; exact h.2.1) m, ih]
theorem runC_head (x : Int) (r : List (Int × Nat)) : ((runC x r).head?.map Prod.fst) = some x := by
  cases r with
  | nil => rfl
  | cons p r => obtain ⟨y, n⟩ := p; rw [runC_cons]; split <;> rfl
theorem runs_head (l : List Int) : (runs l).head?.map Prod.fst = l.head? := by
  cases l with
  | nil => rfl
  | cons x l => exact runC_head x _
/-- How many runs a list has. -/
def rc (l : List Int) : Nat := (runs l).length
theorem rc_nil : rc [] = 0 := rfl
theorem rc_cons (x : Int) (l : List Int) : rc (x :: l) = rc l + if l.head? = some x then 0 else 1 := by
  have h := runs_head l
  unfold rc
  show (runC x (runs l)).length = _
  rw [← h]
  cases hr : runs l with
  | nil => rfl
  | cons p r =>
    obtain ⟨y, n⟩ := p
    rw [runC_cons]
    by_cases e : y = x
    · rw [if_pos e, if_pos (by simp [e])]; rfl
    · rw [if_neg e, if_neg (by simpa using e)]; rfl
theorem rc_le : ∀ l : List Int, rc l ≤ l.length
  | [] => Nat.le_refl _
  | x :: l => by
    have := rc_le l
    rw [rc_cons, List.length_cons]; split <;> omega
theorem rc_rep (v : Int) : ∀ n, rc (List.replicate n v) = min 1 n
  | 0 => rfl
  | n + 1 => by
    have := runs_rep v [] (by simp [runs]) n
    rw [List.append_nil] at this
    unfold rc
    rw [this]
    show 1 = _
    omega
/-- Two lists, one behind the other. -/
theorem rc_parts (b : List Int) (hb : b ≠ []) : ∀ a : List Int, a ≠ [] → rc (a ++ b) + (if a.getLast? = b.head? then 1 else 0) = rc a + rc b
  | [], h => absurd rfl h
  | [x], _ => by
    have e : rc [x] = 1 := rfl
    rw [List.singleton_append, rc_cons, e]
    rw [show ([x] : List Int).getLast? = some x from rfl]
    by_cases h : b.head? = some x
    · rw [if_pos h, if_pos h.symm]; omega
    · rw [if_neg h, if_neg (fun k => h k.symm)]; omega
  | x :: y :: a, _ => by
    have ih := rc_parts b hb (y :: a) (by simp)
    rw [List.cons_append, rc_cons, rc_cons x (y :: a), List.getLast?_cons_cons]
    rw [show ((y :: a) ++ b).head? = (y :: a).head? from rfl]
    omega
/-! Runs by index: where each begins. -/
/-- How many numbers the first so many runs have. -/
def pos (r : List (Int × Nat)) (k : Nat) : Nat := (expd (r.take k)).length
theorem pos_zero (r : List (Int × Nat)) : pos r 0 = 0 := rfl
theorem pos_succ {r : List (Int × Nat)} {k : Nat} {x : Int} {n : Nat} (h : r[k]? = some (x, n)) : pos r (k + 1) = pos r k + n := by
  unfold pos
  rw [List.take_add_one, h, expd_append, List.length_append]
  show _ + (expd [(x, n)]).length = _
  rw [expd_cons]
  simp [expd]
theorem pos_all (l : List Int) : pos (runs l) (rc l) = l.length := by
  unfold pos rc
  rw [List.take_length, expd_runs]
theorem good_at : ∀ {r : List (Int × Nat)} {k : Nat} {x : Int} {n : Nat}, Good r → r[k]? = some (x, n) → 0 < n ∧ ((r.drop (k + 1)).head?.map Prod.fst ≠ some x)
  | p :: r, 0, x, n, h, e => by
    simp at e
    subst e
    exact ⟨h.1, by simpa using h.2.1⟩
  | p :: r, k + 1, x, n, h, e => by
    have := good_at (r := r) (k := k) h.2.2 (by simpa using e)
    simpa using this
theorem expd_head : ∀ {r : List (Int × Nat)}, Good r → (expd r).head? = r.head?.map Prod.fst
  | [], _ => rfl
  | (x, n) :: r, h => by
    obtain ⟨m, rfl⟩ : ∃ m, n = m + 1 := ⟨n - 1, by have := h.1; omega⟩
    rw [expd_cons]; rfl
theorem good_drop : ∀ {r : List (Int × Nat)} (k : Nat), Good r → Good (r.drop k)
  | r, 0, h => h
  | [], k + 1, _ => trivial
  | p :: r, k + 1, h => good_drop (r := r) k h.2.2
/-- A run stands in its list: there, so often, and no longer. -/
theorem run_at {l : List Int} {k : Nat} {x : Int} {n : Nat} (h : (runs l)[k]? = some (x, n)) :
    0 < n ∧ pos (runs l) k + n ≤ l.length ∧ (∀ j, j < n → l[pos (runs l) k + j]? = some x) ∧ (∀ z, l[pos (runs l) k + n]? = some z → z ≠ x) := by
  obtain ⟨hk, _⟩ := List.getElem?_eq_some_iff.1 h
  obtain ⟨h1, h2⟩ := good_at (good_runs l) h
  have hs : l = expd ((runs l).take k) ++ (List.replicate n x ++ expd ((runs l).drop (k + 1))) := by
    have e1 : runs l = (runs l).take k ++ ((x, n) :: (runs l).drop (k + 1)) := by
      have e2 : (runs l).drop k = (x, n) :: (runs l).drop (k + 1) := by
        rw [List.drop_eq_getElem_cons hk, (List.getElem?_eq_some_iff.1 h).2]
      rw [← e2, List.take_append_drop]
    have := expd_runs l
    rw [e1, expd_append, expd_cons] at this
    exact this.symm
  obtain ⟨q, hq⟩ : ∃ q, q = pos (runs l) k := ⟨_, rfl⟩
  have hp : (expd ((runs l).take k)).length = q := by rw [hq]; rfl
  have hd : (expd ((runs l).drop (k + 1))).head? ≠ some x := by rw [expd_head (good_drop _ (good_runs l))]; exact h2
  rw [← hq]
  refine ⟨h1, ?_, ?_, ?_⟩
  · have := congrArg List.length hs
    rw [List.length_append, List.length_append, List.length_replicate, hp] at this
    omega
  · intro j hj
    have e := congrArg (fun m : List Int => m[q + j]?) hs
    rw [e, List.getElem?_append_right (by omega), hp, Nat.add_sub_cancel_left, List.getElem?_append_left (by simpa using hj), List.getElem?_replicate, if_pos hj]
  · intro z hz e
    subst e
    have e := congrArg (fun m : List Int => m[q + n]?) hs
    rw [e, List.getElem?_append_right (by omega), hp, Nat.add_sub_cancel_left, List.getElem?_append_right (by simp), List.length_replicate, Nat.sub_self] at hz
    rw [List.head?_eq_getElem?] at hd
    exact hd hz
theorem pos_lt {l : List Int} {k : Nat} (h : k < rc l) : pos (runs l) k < l.length := by
  have := run_at (l := l) (k := k) (x := ((runs l)[k]'h).1) (n := ((runs l)[k]'h).2) (List.getElem?_eq_getElem h)
  omega
/-! The form of runs. -/
/-- How often, less 1, and the number, as they stand one behind the other. -/
def ilv (r : List (Int × Nat)) : List Int := r.flatMap fun p => [zagI ((p.2 - 1 : Nat) : Int), p.1]
/-- The form of runs. -/
def rf (r : List (Int × Nat)) : List Nat := pl (ilv r)
theorem ilv_append (r s : List (Int × Nat)) : ilv (r ++ s) = ilv r ++ ilv s := by simp [ilv]
theorem ilv_length : ∀ r : List (Int × Nat), (ilv r).length = 2 * r.length
  | [] => rfl
  | p :: r => by
    have := ilv_length r
    show ([_, _] ++ ilv r).length = _
    rw [List.length_append, this, List.length_cons]
    simp
    omega
theorem rf_step {r : List (Int × Nat)} {k : Nat} {x : Int} {n : Nat} (h : r[k]? = some (x, n)) : rf (r.take (k + 1)) = rf (r.take k) ++ (vb (n - 1) ++ vb (zg x)) := by
  unfold rf
  rw [List.take_add_one, h, ilv_append, pl_append]
  congr 1
  show pl [zagI ((n - 1 : Nat) : Int), x] = _
  rw [pl_cons, pl_one, zg_zagI]
theorem rf_length (r : List (Int × Nat)) : (rf r).length ≤ 20 * r.length := by
  have := (pl_length (ilv r)).2
  rw [ilv_length] at this
  unfold rf
  omega
end Go.Proofs.YtieknhhhcjdbnaaDoor

/- Plain arithmetic of 64 bits. No program. -/
namespace Go.Proofs.YtieknhhhcjdbnaaDoor
open Go.RowKit
set_option linter.unusedVariables false
set_option linter.unusedSimpArgs false

theorem u64w (n : Int) : IntKind.u64.wrap n = n % 18446744073709551616 := by simp [IntKind.wrap, IntKind.bits, IntKind.signed]
theorem w64 (n : Int) : wrap64 n = (n + 9223372036854775808) % 18446744073709551616 - 9223372036854775808 := by unfold wrap64; rfl
theorem w64_in (n : Int) : In64 (wrap64 n) := by rw [w64]; unfold In64; omega
theorem w64_id {n : Int} (h : In64 n) : wrap64 n = n := by unfold In64 at h; rw [w64]; omega
end Go.Proofs.YtieknhhhcjdbnaaDoor

/- Plain facts on steps: how much each number is more than the one ahead, what has these steps, and the form of steps. No program, no condition. -/
namespace Go.Proofs.YtieknhhhcjdbnaaDoor
open Go.RowKit
set_option linter.unusedVariables false
set_option linter.unusedSimpArgs false
set_option maxRecDepth 100000

theorem w64_back (p z : Int) (h : In64 z) : wrap64 (p + wrap64 (z - p)) = z := by unfold In64 at h; rw [w64, w64]; omega
theorem w64_forth (p z : Int) (h : In64 z) : wrap64 (wrap64 (p + z) - p) = z := by unfold In64 at h; rw [w64, w64]; omega
theorem w64_shift (y z d : Int) : wrap64 (wrap64 (y + d) - wrap64 (z + d)) = wrap64 (y - z) := by rw [w64, w64, w64, w64]; omega
/-- The steps behind 'p'. -/
def stp (p : Int) : List Int → List Int
  | [] => []
  | z :: l => wrap64 (z - p) :: stp z l
/-- What has these steps, behind 'p'. -/
def sms (p : Int) : List Int → List Int
  | [] => []
  | s :: l => wrap64 (p + s) :: sms (wrap64 (p + s)) l
theorem stp_length (l : List Int) : ∀ p, (stp p l).length = l.length := by
  induction l with
  | nil => intro p; rfl
  | cons z l ih => intro p; simp [stp, ih]
theorem sms_length (l : List Int) : ∀ p, (sms p l).length = l.length := by
  induction l with
  | nil => intro p; rfl
  | cons z l ih => intro p; simp [sms, ih]
theorem stp_in (l : List Int) : ∀ p, ∀ z ∈ stp p l, In64 z := by
  induction l with
  | nil => intro p z h; simp [stp] at h
  | cons y l ih =>
    intro p z h
    rcases List.mem_cons.1 h with rfl | h
    · exact w64_in _
    · exact ih y z h
theorem sms_in (l : List Int) : ∀ p, ∀ z ∈ sms p l, In64 z := by
  induction l with
  | nil => intro p z h; simp [sms] at h
  | cons y l ih =>
    intro p z h
    rcases List.mem_cons.1 h with rfl | h
    · exact w64_in _
    · exact ih _ z h
theorem sms_stp (l : List Int) (h : ∀ z ∈ l, In64 z) : ∀ p, sms p (stp p l) = l := by
  induction l with
  | nil => intro p; rfl
  | cons z l ih =>
    intro p
    have e := w64_back p z (h z (by simp))
    simp only [stp, sms]
    rw [e, ih (fun x hx => h x (by simp [hx]))]
theorem stp_sms (l : List Int) (h : ∀ z ∈ l, In64 z) : ∀ p, stp p (sms p l) = l := by
  induction l with
  | nil => intro p; rfl
  | cons z l ih =>
    intro p
    have e := w64_forth p z (h z (by simp))
    simp only [stp, sms]
    rw [e, ih (fun x hx => h x (by simp [hx]))]
/-- The number ahead of place 'k'. -/
def ahd (p : Int) (l : List Int) (k : Nat) : Int := ((p :: l)[k]?).getD 0
theorem ahd_zero (p : Int) (l : List Int) : ahd p l 0 = p := rfl
theorem ahd_succ {p : Int} {l : List Int} {k : Nat} {z : Int} (h : l[k]? = some z) : ahd p l (k + 1) = z := by unfold ahd; simp [h]
theorem ahd_in {l : List Int} (h : ∀ z ∈ l, In64 z) (k : Nat) : In64 (ahd 0 l k) := by
  unfold ahd
  cases hk : (0 :: l)[k]? with
  | none => simp [In64]
  | some z =>
    rcases List.mem_cons.1 (List.mem_of_getElem? hk) with rfl | h1
    · simp [In64]
    · simpa using h z h1
theorem stp_at (l : List Int) : ∀ (p : Int) (k : Nat) (z : Int), l[k]? = some z → (stp p l)[k]? = some (wrap64 (z - ahd p l k)) := by
  induction l with
  | nil => intro p k z h; simp at h
  | cons y l ih =>
    intro p k z h
    cases k with
    | zero => simp at h; subst h; simp [stp, ahd]
    | succ k =>
      simp at h
      have := ih y k z h
      simp only [stp, List.getElem?_cons_succ]
      rw [this]
      rfl
/-- The sum behind so many steps. -/
def smA (p : Int) (l : List Int) : Nat → Int
  | 0 => p
  | k + 1 => wrap64 (smA p l k + (l[k]?).getD 0)
theorem smA_succ {p : Int} {l : List Int} {k : Nat} {z : Int} (h : l[k]? = some z) : smA p l (k + 1) = wrap64 (smA p l k + z) := by simp [smA, h]
theorem smA_in {p : Int} (hp : In64 p) (l : List Int) (k : Nat) : In64 (smA p l k) := by
  cases k with
  | zero => exact hp
  | succ k => exact w64_in _
theorem smA_cons (p z : Int) (l : List Int) : ∀ k, smA (wrap64 (p + z)) l k = smA p (z :: l) (k + 1) := by
  intro k
  induction k with
  | zero => simp [smA]
  | succ k ih => simp only [smA] at ih ⊢; rw [ih]; simp
theorem sms_at (l : List Int) : ∀ (p : Int) (k : Nat) (z : Int), l[k]? = some z → (sms p l)[k]? = some (smA p l (k + 1)) := by
  induction l with
  | nil => intro p k z h; simp at h
  | cons y l ih =>
    intro p k z h
    cases k with
    | zero => simp [sms, smA]
    | succ k =>
      simp at h
      simp only [sms, List.getElem?_cons_succ]
      rw [ih _ k z h, smA_cons]
/-! The form. -/
/-- The steps behind the first number, each turned. -/
def zb (l : List Int) : List Nat := ((stp 0 l).drop 1).map zg
theorem zb_length (l : List Int) : (zb l).length = l.length - 1 := by simp [zb, stp_length]
theorem zb_lt (l : List Int) : ∀ a ∈ zb l, a < 18446744073709551616 := by
  intro a h
  obtain ⟨z, hz, rfl⟩ := List.mem_map.1 h
  exact (zg_int (stp_in l 0 z (List.mem_of_mem_drop hz))).2
theorem wd_64 (l : List Nat) (h : ∀ a ∈ l, a < 18446744073709551616) : wd l ≤ 64 := (wd_le l 64).2 (by intro a ha; have := h a ha; omega)
theorem wd_zb (l : List Int) : wd (zb l) ≤ 64 := wd_64 _ (zb_lt l)
/-- The parts of the form: the first number, the width, the steps behind. -/
def dl1 (l : List Int) : List Nat := match l with | [] => [] | z :: _ => vb (zg z)
def dl2 (l : List Int) : List Nat := if l.length ≤ 1 then [] else [wd (zb l)]
def dl3 (l : List Int) : List Nat := if l.length ≤ 1 then [] else packB (wd (zb l)) (zb l)
def dl (l : List Int) : List Nat := dl1 l ++ dl2 l ++ dl3 l
theorem dl_nil : dl [] = [] := rfl
theorem dl1_cons (z : Int) (l : List Int) : dl1 (z :: l) = vb (zg z) := rfl
theorem dl_parts (l : List Int) : (dl1 l).length ≤ 10 ∧ (dl2 l).length ≤ 1 ∧ (l.length ≤ 65536 → (dl3 l).length ≤ 524289) := by
  refine ⟨?_, ?_, fun h => ?_⟩
  · cases l with
    | nil => simp [dl1]
    | cons z l => rw [dl1_cons]; exact (vb_length _).2
  · unfold dl2; split <;> simp
  · unfold dl3
    split
    · simp
    · rw [packB_length, zb_length]
      have h1 := wd_zb l
      have h2 : (l.length - 1) * wd (zb l) ≤ 65536 * 64 := Nat.mul_le_mul (by omega) h1
      unfold sz; omega
theorem dl_length (l : List Int) (h : l.length ≤ 65536) : (dl l).length ≤ 524300 := by
  obtain ⟨h1, h2, h3⟩ := dl_parts l
  have := h3 h
  unfold dl; rw [List.length_append, List.length_append]; omega
theorem dl_byte (l : List Int) (h : ∀ z ∈ l, In64 z) : ∀ b ∈ dl l, b < 256 := by
  intro b hb
  unfold dl at hb
  rcases List.mem_append.1 hb with hb | hb
  · rcases List.mem_append.1 hb with hb | hb
    · cases l with
      | nil => simp [dl1] at hb
      | cons z l => exact vb_byte _ (zg_int (h z (by simp))).2 b hb
    · unfold dl2 at hb
      have := wd_zb l
      split at hb
      · simp at hb
      · simp at hb; omega
  · unfold dl3 at hb
    split at hb
    · simp at hb
    · exact packB_byte _ _ b hb
/-- What is behind the head says all of the steps behind the first number. -/
theorem stp_shift (d : Int) (l : List Int) : ∀ z, stp (wrap64 (z + d)) (l.map fun y => wrap64 (y + d)) = stp z l := by
  induction l with
  | nil => intro z; rfl
  | cons y l ih => intro z; simp only [List.map_cons, stp]; rw [w64_shift, ih]
theorem zb_shift (d : Int) (l : List Int) : zb (l.map fun y => wrap64 (y + d)) = zb l := by
  cases l with
  | nil => rfl
  | cons z l => simp [zb, stp, stp_shift]
theorem drop_shift (d : Int) (l : List Int) : (stp 0 (l.map fun y => wrap64 (y + d))).drop 1 = (stp 0 l).drop 1 := by
  cases l with
  | nil => rfl
  | cons z l => simp [stp, stp_shift]
theorem dl_behind (l : List Int) : (dl l).drop (dl1 l).length = dl2 l ++ dl3 l := by
  unfold dl; rw [List.append_assoc, List.drop_append_of_le_length (Nat.le_refl _), List.drop_length, List.nil_append]
theorem dl_shift (d : Int) (l : List Int) : dl2 (l.map fun y => wrap64 (y + d)) ++ dl3 (l.map fun y => wrap64 (y + d)) = dl2 l ++ dl3 l := by
  unfold dl2 dl3; rw [zb_shift, List.length_map]
end Go.Proofs.YtieknhhhcjdbnaaDoor
