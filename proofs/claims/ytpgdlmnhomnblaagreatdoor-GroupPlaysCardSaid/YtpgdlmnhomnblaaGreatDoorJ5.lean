import Derived.Test.YtpgdlmnhomnblaaGreatDoorJ4
namespace Go.Proofs.YtpgdlmnhomnblaaGreatDoor
open Go.RowKit
set_option linter.unusedVariables false
set_option linter.unusedSimpArgs false
set_option maxRecDepth 100000
def runC (x : Int) : List (Int × Nat) → List (Int × Nat)
  | [] => [(x, 1)]
  | (y, n) :: r => if y = x then (x, n + 1) :: r else (x, 1) :: (y, n) :: r
theorem runC_cons (x y : Int) (n : Nat) (r : List (Int × Nat)) : runC x ((y, n) :: r) = if y = x then (x, n + 1) :: r else (x, 1) :: (y, n) :: r := rfl
def runs : List Int → List (Int × Nat)
  | [] => []
  | x :: l => runC x (runs l)
def expd (r : List (Int × Nat)) : List Int := r.flatMap fun p => List.replicate p.2 p.1
def Good : List (Int × Nat) → Prop
  | [] => True
  | (x, n) :: r => 0 < n ∧ (r.head?.map Prod.fst ≠ some x) ∧ Good r
theorem expd_cons (p : Int × Nat) (r : List (Int × Nat)) : expd (p :: r) = List.replicate p.2 p.1 ++ expd r := by simp [expd]
theorem expd_append (r s : List (Int × Nat)) : expd (r ++ s) = expd r ++ expd s := by simp [expd]
theorem runC_expd (x : Int) (r : List (Int × Nat)) : expd (runC x r) = x :: expd r := by
  cases r with
  | nil => rfl
  | cons p r =>
    obtain ⟨y, n⟩ := p
    rw [runC_cons]
    split
    · rename_i h; subst h
      rw [expd_cons, expd_cons]; rfl
    · rw [expd_cons]; rfl
theorem expd_runs : ∀ l : List Int, expd (runs l) = l
  | [] => rfl
  | x :: l => by show expd (runC x (runs l)) = _; rw [runC_expd, expd_runs l]
theorem runC_good (x : Int) {r : List (Int × Nat)} (h : Good r) : Good (runC x r) := by
  cases r with
  | nil => exact ⟨by omega, by simp, trivial⟩
  | cons p r =>
    obtain ⟨y, n⟩ := p
    rw [runC_cons]
    split
    · rename_i e; subst e
      exact ⟨by omega, h.2.1, h.2.2⟩
    · rename_i e
      exact ⟨by omega, by simpa using e, h⟩
theorem good_runs : ∀ l : List Int, Good (runs l)
  | [] => trivial
  | x :: l => runC_good x (good_runs l)
theorem runC_rep (x : Int) (r : List (Int × Nat)) (h : r.head?.map Prod.fst ≠ some x) : runC x r = (x, 1) :: r := by
  cases r with
  | nil => rfl
  | cons p r =>
    obtain ⟨y, n⟩ := p
    rw [runC_cons]
    rw [if_neg (by simpa using h)]
theorem runs_rep (x : Int) (l : List Int) (h : (runs l).head?.map Prod.fst ≠ some x) : ∀ n, runs (List.replicate (n + 1) x ++ l) = (x, n + 1) :: runs l
  | 0 => runC_rep x _ h
  | n + 1 => by
    show runC x (runs (List.replicate (n + 1) x ++ l)) = _
    rw [runs_rep x l h n]
    rw [runC_cons]
    rw [if_pos rfl]
theorem runs_expd : ∀ r, Good r → runs (expd r) = r
  | [], _ => rfl
  | (x, n) :: r, h => by
    have ih := runs_expd r h.2.2
    obtain ⟨m, rfl⟩ : ∃ m, n = m + 1 := ⟨n - 1, by have := h.1; omega⟩
    rw [expd_cons, runs_rep x _ (by rw [ih]; exact h.2.1) m, ih]
theorem runC_head (x : Int) (r : List (Int × Nat)) : ((runC x r).head?.map Prod.fst) = some x := by
  cases r with
  | nil => rfl
  | cons p r => obtain ⟨y, n⟩ := p; rw [runC_cons]; split <;> rfl
theorem runs_head (l : List Int) : (runs l).head?.map Prod.fst = l.head? := by
  cases l with
  | nil => rfl
  | cons x l => exact runC_head x _
def rc (l : List Int) : Nat := (runs l).length
theorem rc_cons (x : Int) (l : List Int) : rc (x :: l) = rc l + if l.head? = some x then 0 else 1 := by
  have h := runs_head l
  unfold rc
  show (runC x (runs l)).length = _
  rw [← h]
  cases hr : runs l with
  | nil => rfl
  | cons p r =>
    obtain ⟨y, n⟩ := p
    rw [runC_cons]
    by_cases e : y = x
    · rw [if_pos e, if_pos (by simp [e])]; rfl
    · rw [if_neg e, if_neg (by simpa using e)]; rfl
theorem rc_le : ∀ l : List Int, rc l ≤ l.length
  | [] => Nat.le_refl _
  | x :: l => by
    have := rc_le l
    rw [rc_cons, List.length_cons]; split <;> omega
def pos (r : List (Int × Nat)) (k : Nat) : Nat := (expd (r.take k)).length
theorem pos_succ {r : List (Int × Nat)} {k : Nat} {x : Int} {n : Nat} (h : r[k]? = some (x, n)) : pos r (k + 1) = pos r k + n := by
  unfold pos
  rw [List.take_add_one, h, expd_append, List.length_append]
  show _ + (expd [(x, n)]).length = _
  rw [expd_cons]
  simp [expd]
theorem pos_all (l : List Int) : pos (runs l) (rc l) = l.length := by
  unfold pos rc
  rw [List.take_length, expd_runs]
theorem good_at : ∀ {r : List (Int × Nat)} {k : Nat} {x : Int} {n : Nat}, Good r → r[k]? = some (x, n) → 0 < n ∧ ((r.drop (k + 1)).head?.map Prod.fst ≠ some x)
  | p :: r, 0, x, n, h, e => by
    simp at e
    subst e
    exact ⟨h.1, by simpa using h.2.1⟩
  | p :: r, k + 1, x, n, h, e => by
    have := good_at (r := r) (k := k) h.2.2 (by simpa using e)
    simpa using this
theorem expd_head : ∀ {r : List (Int × Nat)}, Good r → (expd r).head? = r.head?.map Prod.fst
  | [], _ => rfl
  | (x, n) :: r, h => by
    obtain ⟨m, rfl⟩ : ∃ m, n = m + 1 := ⟨n - 1, by have := h.1; omega⟩
    rw [expd_cons]; rfl
theorem good_drop : ∀ {r : List (Int × Nat)} (k : Nat), Good r → Good (r.drop k)
  | r, 0, h => h
  | [], k + 1, _ => trivial
  | p :: r, k + 1, h => good_drop (r := r) k h.2.2
theorem run_at {l : List Int} {k : Nat} {x : Int} {n : Nat} (h : (runs l)[k]? = some (x, n)) :
    0 < n ∧ pos (runs l) k + n ≤ l.length ∧ (∀ j, j < n → l[pos (runs l) k + j]? = some x) ∧ (∀ z, l[pos (runs l) k + n]? = some z → z ≠ x) := by
  obtain ⟨hk, _⟩ := List.getElem?_eq_some_iff.1 h
  obtain ⟨h1, h2⟩ := good_at (good_runs l) h
  have hs : l = expd ((runs l).take k) ++ (List.replicate n x ++ expd ((runs l).drop (k + 1))) := by
    have e1 : runs l = (runs l).take k ++ ((x, n) :: (runs l).drop (k + 1)) := by
      have e2 : (runs l).drop k = (x, n) :: (runs l).drop (k + 1) := by
        rw [List.drop_eq_getElem_cons hk, (List.getElem?_eq_some_iff.1 h).2]
      rw [← e2, List.take_append_drop]
    have := expd_runs l
    rw [e1, expd_append, expd_cons] at this
    exact this.symm
  obtain ⟨q, hq⟩ : ∃ q, q = pos (runs l) k := ⟨_, rfl⟩
  have hp : (expd ((runs l).take k)).length = q := by rw [hq]; rfl
  have hd : (expd ((runs l).drop (k + 1))).head? ≠ some x := by rw [expd_head (good_drop _ (good_runs l))]; exact h2
  rw [← hq]
  refine ⟨h1, ?_, ?_, ?_⟩
  · have := congrArg List.length hs
    rw [List.length_append, List.length_append, List.length_replicate, hp] at this
    omega
  · intro j hj
    have e := congrArg (fun m : List Int => m[q + j]?) hs
    rw [e, List.getElem?_append_right (by omega), hp, Nat.add_sub_cancel_left, List.getElem?_append_left (by simpa using hj), List.getElem?_replicate, if_pos hj]
  · intro z hz e
    subst e
    have e := congrArg (fun m : List Int => m[q + n]?) hs
    rw [e, List.getElem?_append_right (by omega), hp, Nat.add_sub_cancel_left, List.getElem?_append_right (by simp), List.length_replicate, Nat.sub_self] at hz
    rw [List.head?_eq_getElem?] at hd
    exact hd hz
def ilv (r : List (Int × Nat)) : List Int := r.flatMap fun p => [zagI ((p.2 - 1 : Nat) : Int), p.1]
def rf (r : List (Int × Nat)) : List Nat := pl (ilv r)
theorem ilv_append (r s : List (Int × Nat)) : ilv (r ++ s) = ilv r ++ ilv s := by simp [ilv]
theorem ilv_length : ∀ r : List (Int × Nat), (ilv r).length = 2 * r.length
  | [] => rfl
  | p :: r => by
    have := ilv_length r
    show ([_, _] ++ ilv r).length = _
    rw [List.length_append, this, List.length_cons]
    simp
    omega
theorem rf_step {r : List (Int × Nat)} {k : Nat} {x : Int} {n : Nat} (h : r[k]? = some (x, n)) : rf (r.take (k + 1)) = rf (r.take k) ++ (vb (n - 1) ++ vb (zg x)) := by
  unfold rf
  rw [List.take_add_one, h, ilv_append, pl_append]
  congr 1
  show pl [zagI ((n - 1 : Nat) : Int), x] = _
  rw [pl_cons, pl_one, zg_zagI]
theorem rf_length (r : List (Int × Nat)) : (rf r).length ≤ 20 * r.length := by
  have := (pl_length (ilv r)).2
  rw [ilv_length] at this
  unfold rf
  omega
end Go.Proofs.YtpgdlmnhomnblaaGreatDoor
namespace Go.Proofs.YtpgdlmnhomnblaaGreatDoor
open Go.RowKit
set_option linter.unusedVariables false
set_option linter.unusedSimpArgs false
theorem u64w (n : Int) : IntKind.u64.wrap n = n % 18446744073709551616 := by simp [IntKind.wrap, IntKind.bits, IntKind.signed]
theorem w64 (n : Int) : wrap64 n = (n + 9223372036854775808) % 18446744073709551616 - 9223372036854775808 := by unfold wrap64; rfl
theorem w64_in (n : Int) : In64 (wrap64 n) := by rw [w64]; unfold In64; omega
theorem w64_id {n : Int} (h : In64 n) : wrap64 n = n := by unfold In64 at h; rw [w64]; omega
end Go.Proofs.YtpgdlmnhomnblaaGreatDoor
namespace Go.Proofs.YtpgdlmnhomnblaaGreatDoor
open Go.RowKit
set_option linter.unusedVariables false
set_option linter.unusedSimpArgs false
set_option maxRecDepth 100000
def stp (p : Int) : List Int → List Int
  | [] => []
  | z :: l => wrap64 (z - p) :: stp z l
theorem stp_length (l : List Int) : ∀ p, (stp p l).length = l.length := by
  induction l with
  | nil => intro p; rfl
  | cons z l ih => intro p; simp [stp, ih]
theorem stp_in (l : List Int) : ∀ p, ∀ z ∈ stp p l, In64 z := by
  induction l with
  | nil => intro p z h; simp [stp] at h
  | cons y l ih =>
    intro p z h
    rcases List.mem_cons.1 h with rfl | h
    · exact w64_in _
    · exact ih y z h
def ahd (p : Int) (l : List Int) (k : Nat) : Int := ((p :: l)[k]?).getD 0
theorem ahd_zero (p : Int) (l : List Int) : ahd p l 0 = p := rfl
theorem ahd_succ {p : Int} {l : List Int} {k : Nat} {z : Int} (h : l[k]? = some z) : ahd p l (k + 1) = z := by unfold ahd; simp [h]
theorem stp_at (l : List Int) : ∀ (p : Int) (k : Nat) (z : Int), l[k]? = some z → (stp p l)[k]? = some (wrap64 (z - ahd p l k)) := by
  induction l with
  | nil => intro p k z h; simp at h
  | cons y l ih =>
    intro p k z h
    cases k with
    | zero => simp at h; subst h; simp [stp, ahd]
    | succ k =>
      simp at h
      have := ih y k z h
      simp only [stp, List.getElem?_cons_succ]
      rw [this]
      rfl
def zb (l : List Int) : List Nat := ((stp 0 l).drop 1).map zg
theorem zb_length (l : List Int) : (zb l).length = l.length - 1 := by simp [zb, stp_length]
theorem zb_lt (l : List Int) : ∀ a ∈ zb l, a < 18446744073709551616 := by
  intro a h
  obtain ⟨z, hz, rfl⟩ := List.mem_map.1 h
  exact (zg_int (stp_in l 0 z (List.mem_of_mem_drop hz))).2
theorem wd_64 (l : List Nat) (h : ∀ a ∈ l, a < 18446744073709551616) : wd l ≤ 64 := (wd_le l 64).2 (by intro a ha; have := h a ha; omega)
theorem wd_zb (l : List Int) : wd (zb l) ≤ 64 := wd_64 _ (zb_lt l)
def dl1 (l : List Int) : List Nat := match l with | [] => [] | z :: _ => vb (zg z)
def dl2 (l : List Int) : List Nat := if l.length ≤ 1 then [] else [wd (zb l)]
def dl3 (l : List Int) : List Nat := if l.length ≤ 1 then [] else packB (wd (zb l)) (zb l)
def dl (l : List Int) : List Nat := dl1 l ++ dl2 l ++ dl3 l
theorem dl1_cons (z : Int) (l : List Int) : dl1 (z :: l) = vb (zg z) := rfl
theorem dl_parts (l : List Int) : (dl1 l).length ≤ 10 ∧ (dl2 l).length ≤ 1 ∧ (l.length ≤ 65536 → (dl3 l).length ≤ 524289) := by
  refine ⟨?_, ?_, fun h => ?_⟩
  · cases l with
    | nil => simp [dl1]
    | cons z l => rw [dl1_cons]; exact (vb_length _).2
  · unfold dl2; split <;> simp
  · unfold dl3
    split
    · simp
    · rw [packB_length, zb_length]
      have h1 := wd_zb l
      have h2 : (l.length - 1) * wd (zb l) ≤ 65536 * 64 := Nat.mul_le_mul (by omega) h1
      unfold sz; omega
theorem dl_length (l : List Int) (h : l.length ≤ 65536) : (dl l).length ≤ 524300 := by
  obtain ⟨h1, h2, h3⟩ := dl_parts l
  have := h3 h
  unfold dl; rw [List.length_append, List.length_append]; omega
theorem dl_byte (l : List Int) (h : ∀ z ∈ l, In64 z) : ∀ b ∈ dl l, b < 256 := by
  intro b hb
  unfold dl at hb
  rcases List.mem_append.1 hb with hb | hb
  · rcases List.mem_append.1 hb with hb | hb
    · cases l with
      | nil => simp [dl1] at hb
      | cons z l => exact vb_byte _ (zg_int (h z (by simp))).2 b hb
    · unfold dl2 at hb
      have := wd_zb l
      split at hb
      · simp at hb
      · simp at hb; omega
  · unfold dl3 at hb
    split at hb
    · simp at hb
    · exact packB_byte _ _ b hb
end Go.Proofs.YtpgdlmnhomnblaaGreatDoor
namespace Go.Proofs.YtpgdlmnhomnblaaGreatDoor
open Go.RowKit
set_option linter.unusedVariables false
set_option linter.unusedSimpArgs false
set_option maxRecDepth 100000
def Rise (L : List Int) : Prop := L.Pairwise (· < ·)
def insD (z : Int) : List Int → List Int
  | [] => [z]
  | y :: l => if y < z then y :: insD z l else if y = z then y :: l else z :: y :: l
def lstD (l : List Int) : List Int := l.foldl (fun o z => insD z o) []
theorem insD_mem (z x : Int) (L : List Int) : x ∈ insD z L ↔ x = z ∨ x ∈ L := by
  induction L with
  | nil => simp [insD]
  | cons y L ih =>
    simp only [insD]
    split
    · rw [List.mem_cons, ih, List.mem_cons]
      constructor
      · rintro (h | h | h) <;> simp [h]
      · rintro (h | h | h) <;> simp [h]
    · split
      · rename_i h1 h2
        subst h2
        rw [List.mem_cons]
        constructor
        · rintro (h | h) <;> simp [h]
        · rintro (h | h | h) <;> simp [h]
      · rw [List.mem_cons]
theorem insD_rise (z : Int) (L : List Int) (h : Rise L) : Rise (insD z L) := by
  induction L with
  | nil => simp [insD, Rise]
  | cons y L ih =>
    obtain ⟨h1, h2⟩ := List.pairwise_cons.1 h
    simp only [insD]
    split
    · rename_i hy
      refine List.pairwise_cons.2 ⟨fun x hx => ?_, ih h2⟩
      rcases (insD_mem z x L).1 hx with rfl | hx
      · exact hy
      · exact h1 x hx
    · split
      · exact h
      · refine List.pairwise_cons.2 ⟨fun x hx => ?_, h⟩
        rcases List.mem_cons.1 hx with rfl | hx
        · omega
        · have := h1 x hx; omega
theorem foldD_mem (l : List Int) : ∀ (o : List Int) (x : Int), x ∈ l.foldl (fun o z => insD z o) o ↔ x ∈ l ∨ x ∈ o := by
  induction l with
  | nil => intro o x; simp
  | cons z l ih =>
    intro o x
    rw [List.foldl_cons, ih, insD_mem, List.mem_cons]
    constructor
    · rintro (h | h | h) <;> simp [h]
    · rintro ((h | h) | h) <;> simp [h]
theorem foldD_rise (l : List Int) : ∀ o, Rise o → Rise (l.foldl (fun o z => insD z o) o) := by
  induction l with
  | nil => intro o h; exact h
  | cons z l ih => intro o h; exact ih _ (insD_rise z o h)
theorem lstD_mem (l : List Int) (x : Int) : x ∈ lstD l ↔ x ∈ l := by unfold lstD; rw [foldD_mem]; simp
theorem lstD_rise (l : List Int) : Rise (lstD l) := foldD_rise l [] List.Pairwise.nil
theorem rise_ext : ∀ (a b : List Int), Rise a → Rise b → (∀ x, x ∈ a ↔ x ∈ b) → a = b := by
  intro a
  induction a with
  | nil =>
    intro b _ _ h
    cases b with
    | nil => rfl
    | cons y b => have := (h y).2 (by simp); simp at this
  | cons x a ih =>
    intro b ha hb h
    cases b with
    | nil => have := (h x).1 (by simp); simp at this
    | cons y b =>
      obtain ⟨a1, a2⟩ := List.pairwise_cons.1 ha
      obtain ⟨b1, b2⟩ := List.pairwise_cons.1 hb
      have exy : x = y := by
        have h1 := (h x).1 (by simp)
        have h2 := (h y).2 (by simp)
        rcases List.mem_cons.1 h1 with h1 | h1
        · exact h1
        · rcases List.mem_cons.1 h2 with h2 | h2
          · exact h2.symm
          · have := b1 x h1; have := a1 y h2; omega
      subst exy
      congr 1
      refine ih b a2 b2 fun z => ?_
      constructor
      · intro hz
        rcases List.mem_cons.1 ((h z).1 (List.mem_cons_of_mem _ hz)) with rfl | h1
        · have := a1 z hz; omega
        · exact h1
      · intro hz
        rcases List.mem_cons.1 ((h z).2 (List.mem_cons_of_mem _ hz)) with rfl | h1
        · have := b1 z hz; omega
        · exact h1
theorem insD_length (z : Int) (L : List Int) : (insD z L).length ≤ L.length + 1 := by
  induction L with
  | nil => simp [insD]
  | cons y L ih =>
    simp only [insD]
    split
    · simp only [List.length_cons]; omega
    · split <;> simp
theorem foldD_length (l : List Int) : ∀ o : List Int, (l.foldl (fun o z => insD z o) o).length ≤ o.length + l.length := by
  induction l with
  | nil => intro o; simp
  | cons z l ih =>
    intro o
    have h1 := ih (insD z o)
    have h2 := insD_length z o
    rw [List.foldl_cons, List.length_cons]; omega
theorem lstD_length (l : List Int) : (lstD l).length ≤ l.length := by have := foldD_length l []; simp at this; exact this
theorem lstD_in {l : List Int} (h : ∀ z ∈ l, In64 z) : ∀ z ∈ lstD l, In64 z := fun z hz => h z ((lstD_mem l z).1 hz)
theorem lstD_snoc (l : List Int) (z : Int) : lstD (l ++ [z]) = insD z (lstD l) := by simp [lstD]
def uqD (l : List Int) : List Int := l.foldl (fun o z => if z ∈ o then o else o ++ [z]) []
theorem uqD_snoc (l : List Int) (z : Int) : uqD (l ++ [z]) = if z ∈ uqD l then uqD l else uqD l ++ [z] := by unfold uqD; rw [List.foldl_append]; rfl
theorem uqD_both (l : List Int) : (∀ x, x ∈ uqD l ↔ x ∈ l) ∧ (uqD l).Nodup ∧ (uqD l).length ≤ l.length := by
  have key : ∀ m : List Int, (∀ x, x ∈ uqD m.reverse ↔ x ∈ m.reverse) ∧ (uqD m.reverse).Nodup ∧ (uqD m.reverse).length ≤ m.reverse.length := by
    intro m
    induction m with
    | nil => simp [uqD]
    | cons z m ih =>
      obtain ⟨i1, i2, i3⟩ := ih
      rw [List.reverse_cons, uqD_snoc]
      by_cases hz : z ∈ uqD m.reverse
      · rw [if_pos hz]
        refine ⟨fun x => ?_, i2, by rw [List.length_append]; omega⟩
        rw [i1 x, List.mem_append, List.mem_singleton]
        constructor
        · exact .inl
        · rintro (h | rfl)
          · exact h
          · exact (i1 x).1 hz
      · rw [if_neg hz]
        refine ⟨fun x => ?_, ?_, by simp only [List.length_append, List.length_singleton]; omega⟩
        · rw [List.mem_append, List.mem_append, i1 x]
        · rw [List.nodup_append]
          refine ⟨i2, by simp, ?_⟩
          intro a ha b hb e
          rw [List.mem_singleton] at hb
          subst hb
          subst e
          exact hz ha
  have := key l.reverse
  rwa [List.reverse_reverse] at this
theorem uqD_mem (l : List Int) (x : Int) : x ∈ uqD l ↔ x ∈ l := (uqD_both l).1 x
theorem uqD_length (l : List Int) : (uqD l).length ≤ l.length := (uqD_both l).2.2
theorem sort_uqD (l : List Int) : (uqD l).mergeSort (fun x y => decide (x ≤ y)) = lstD l := by
  have hp : ((uqD l).mergeSort (fun x y => decide (x ≤ y))).Perm (uqD l) := List.mergeSort_perm _ _
  have hs : ((uqD l).mergeSort (fun x y => decide (x ≤ y))).Pairwise (fun a b => decide (a ≤ b) = true) := List.pairwise_mergeSort (fun a b c h1 h2 => by simp at *; omega) (fun a b => by simp; omega) _
  have hn : ((uqD l).mergeSort (fun x y => decide (x ≤ y))).Nodup := hp.nodup_iff.2 (uqD_both l).2.1
  refine rise_ext _ _ ?_ (lstD_rise l) fun x => by rw [hp.mem_iff, uqD_mem, lstD_mem]
  unfold Rise
  refine (hs.and hn).imp ?_
  rintro a b ⟨h1, h2⟩
  have h3 : a ≤ b := by simpa using h1
  have h4 : a ≠ b := h2
  omega
def posD (L : List Int) (z : Int) : Nat := L.idxOf z
theorem posD_lt {L : List Int} {z : Int} (h : z ∈ L) : posD L z < L.length := List.idxOf_lt_length_of_mem h
theorem posD_at {L : List Int} {z : Int} (h : z ∈ L) : L[posD L z]? = some z := by
  have hl := posD_lt h
  rw [List.getElem?_eq_getElem hl]
  congr 1
  exact List.getElem_idxOf hl
theorem rise_inj {L : List Int} (h : Rise L) {i j : Nat} {z : Int} (hi : L[i]? = some z) (hj : L[j]? = some z) : i = j := by
  obtain ⟨hi1, hi2⟩ := List.getElem?_eq_some_iff.1 hi
  obtain ⟨hj1, hj2⟩ := List.getElem?_eq_some_iff.1 hj
  have hp := List.pairwise_iff_getElem.1 h
  rcases Nat.lt_trichotomy i j with hlt | he | hlt
  · have := hp i j hi1 hj1 hlt; omega
  · exact he
  · have := hp j i hj1 hi1 hlt; omega
theorem posD_of {L : List Int} (h : Rise L) {i : Nat} {z : Int} (hi : L[i]? = some z) : posD L z = i := rise_inj h (posD_at (List.mem_of_getElem? hi)) hi
def plcD (l : List Int) : List Nat := l.map (posD (lstD l))
theorem plcD_length (l : List Int) : (plcD l).length = l.length := by simp [plcD]
theorem plcD_lt (l : List Int) : ∀ a ∈ plcD l, a < (lstD l).length := by
  intro a h
  obtain ⟨z, hz, rfl⟩ := List.mem_map.1 h
  exact posD_lt ((lstD_mem l z).2 hz)
theorem plcD_all (l : List Int) (i : Nat) (h : i < (lstD l).length) : i ∈ plcD l := by
  have hi : (lstD l)[i]? = some (lstD l)[i] := List.getElem?_eq_getElem h
  exact List.mem_map.2 ⟨_, (lstD_mem l _).1 (List.getElem_mem h), posD_of (lstD_rise l) hi⟩
theorem wd_plcD (l : List Int) : wd (plcD l) = blen ((lstD l).length - 1) := by
  have h1 : wd (plcD l) ≤ blen ((lstD l).length - 1) := by
    rw [wd_le]
    intro a ha
    have hlt := plcD_lt l a ha
    have h2 := (blen_le ((lstD l).length - 1) _).1 (Nat.le_refl _)
    omega
  have h2 : blen ((lstD l).length - 1) ≤ wd (plcD l) := by
    rw [blen_le]
    rcases Nat.eq_zero_or_pos (lstD l).length with h0 | h0
    · rw [h0]; exact Nat.two_pow_pos _
    · exact (wd_le (plcD l) _).1 (Nat.le_refl _) _ (plcD_all l _ (by omega))
  omega
def gpD (p : Int) : List Int → List Nat
  | [] => []
  | z :: l => (z - p - 1).toNat :: gpD z l
def htD : List Int → List Nat
  | [] => []
  | z :: l => zg z :: gpD z l
def hnD (L : List Int) : List Nat := L.length :: htD L
def vbs (ns : List Nat) : List Nat := ns.flatMap vb
theorem vbs_append (a b : List Nat) : vbs (a ++ b) = vbs a ++ vbs b := by simp [vbs]
theorem vbs_one (a : Nat) : vbs [a] = vb a := by simp [vbs]
theorem vbs_cons (a : Nat) (l : List Nat) : vbs (a :: l) = vb a ++ vbs l := by simp [vbs]
theorem vbs_step {l : List Nat} {k a : Nat} (h : l[k]? = some a) : vbs (l.take (k + 1)) = vbs (l.take k) ++ vb a := by rw [take_snoc h, vbs_append, vbs_one]
theorem vbs_length (l : List Nat) : (vbs l).length ≤ 10 * l.length := by
  induction l with
  | nil => simp [vbs]
  | cons a l ih =>
    have := vb_length a
    rw [vbs_cons, List.length_append, List.length_cons]; omega
theorem vbs_byte (l : List Nat) (h : ∀ a ∈ l, a < 18446744073709551616) : ∀ b ∈ vbs l, b < 256 := by
  intro b hb
  obtain ⟨a, ha, hb⟩ := List.mem_flatMap.1 hb
  exact vb_byte _ (h a ha) b hb
theorem gpD_length (L : List Int) : ∀ p, (gpD p L).length = L.length := by
  induction L with
  | nil => intro p; rfl
  | cons z l ih => intro p; simp [gpD, ih]
theorem htD_length (L : List Int) : (htD L).length = L.length := by cases L <;> simp [htD, gpD_length]
theorem gpD_lt (L : List Int) : ∀ p, In64 p → (∀ z ∈ L, In64 z) → ∀ a ∈ gpD p L, a < 18446744073709551616 := by
  induction L with
  | nil => intro p _ _ a h; simp [gpD] at h
  | cons z l ih =>
    intro p hp hl a h
    have hz := hl z (by simp)
    unfold In64 at hp hz
    rcases List.mem_cons.1 h with rfl | h
    · omega
    · exact ih z hz (fun x hx => hl x (by simp [hx])) a h
theorem htD_lt (L : List Int) (h : ∀ z ∈ L, In64 z) : ∀ a ∈ htD L, a < 18446744073709551616 := by
  cases L with
  | nil => intro a ha; simp [htD] at ha
  | cons z l =>
    intro a ha
    rcases List.mem_cons.1 ha with rfl | ha
    · exact (zg_int (h z (by simp))).2
    · exact gpD_lt l z (h z (by simp)) (fun x hx => h x (by simp [hx])) a ha
theorem gpD_at (L : List Int) : ∀ (p : Int) (k : Nat) (y z : Int), (p :: L)[k]? = some y → L[k]? = some z → (gpD p L)[k]? = some (z - y - 1).toNat := by
  induction L with
  | nil => intro p k y z _ h; simp at h
  | cons x l ih =>
    intro p k y z hy hz
    cases k with
    | zero => simp at hy hz; subst hy; subst hz; rfl
    | succ k =>
      simp only [List.getElem?_cons_succ] at hy hz
      simp only [gpD, List.getElem?_cons_succ]
      exact ih x k y z hy hz
theorem htD_zero {L : List Int} {z : Int} (h : L[0]? = some z) : (htD L)[0]? = some (zg z) := by
  cases L with
  | nil => simp at h
  | cons x l => simp at h; subst h; rfl
theorem htD_succ {L : List Int} {k : Nat} {y z : Int} (hy : L[k]? = some y) (hz : L[k + 1]? = some z) : (htD L)[k + 1]? = some (z - y - 1).toNat := by
  cases L with
  | nil => simp at hy
  | cons x l =>
    simp only [List.getElem?_cons_succ] at hz
    show (gpD x l)[k]? = _
    exact gpD_at l x k y z hy hz
theorem gap_eq {y z : Int} (hy : In64 y) (hz : In64 z) (h : y < z) : IntKind.u64.wrap (IntKind.u64.wrap (wrap64 (z - y)) - 1) = ((z - y - 1).toNat : Int) := by
  rw [u64w, u64w]
  unfold wrap64
  unfold In64 at hy hz
  omega
theorem gap_eq2 {y z : Int} (hy : In64 y) (hz : In64 z) (h : y < z) : IntKind.u64.wrap (IntKind.u64.wrap (IntKind.u64.wrap z - IntKind.u64.wrap y) - 1) = ((z - y - 1).toNat : Int) := by
  rw [u64w, u64w, u64w, u64w]
  unfold In64 at hy hz
  omega
def hdD (L : List Int) : List Nat := vbs (hnD L)
theorem hdD_eq (L : List Int) : hdD L = vb L.length ++ vbs (htD L) := vbs_cons _ _
theorem hdD_length (L : List Int) : (hdD L).length ≤ 10 * L.length + 10 := by
  have := vbs_length (hnD L)
  unfold hdD; simp only [hnD, List.length_cons, htD_length] at this ⊢; omega
def dc (l : List Int) : List Nat := hdD (lstD l) ++ [wd (plcD l)] ++ packB (wd (plcD l)) (plcD l)
theorem wd_plcD_le (l : List Int) (h : l.length ≤ 65536) : wd (plcD l) ≤ 16 := by
  rw [wd_plcD, blen_le]
  have := lstD_length l
  omega
theorem dc_parts (l : List Int) (h : l.length ≤ 65536) : (hdD (lstD l)).length ≤ 655370 ∧ (packB (wd (plcD l)) (plcD l)).length ≤ 131073 := by
  have h1 := lstD_length l
  have h2 := hdD_length (lstD l)
  refine ⟨by omega, ?_⟩
  rw [packB_length, plcD_length]
  have h3 := wd_plcD_le l h
  have h4 : l.length * wd (plcD l) ≤ 65536 * 16 := Nat.mul_le_mul h h3
  unfold sz; omega
theorem dc_length (l : List Int) (h : l.length ≤ 65536) : (dc l).length ≤ 786444 := by
  obtain ⟨h1, h2⟩ := dc_parts l h
  unfold dc; rw [List.length_append, List.length_append, List.length_singleton]; omega
theorem dc_byte (l : List Int) (hn : l.length ≤ 65536) (h : ∀ z ∈ l, In64 z) : ∀ b ∈ dc l, b < 256 := by
  intro b hb
  have hw := wd_plcD_le l hn
  have hl := lstD_length l
  unfold dc at hb
  rcases List.mem_append.1 hb with hb | hb
  · rcases List.mem_append.1 hb with hb | hb
    · refine vbs_byte (hnD (lstD l)) (fun a ha => ?_) b hb
      rcases List.mem_cons.1 ha with rfl | ha
      · omega
      · exact htD_lt _ (lstD_in h) a ha
    · simp at hb; omega
  · exact packB_byte _ _ b hb
end Go.Proofs.YtpgdlmnhomnblaaGreatDoor
namespace Go.Proofs.YtpgdlmnhomnblaaGreatDoor
open Go.RowKit
set_option linter.unusedVariables false
set_option linter.unusedSimpArgs false
set_option maxRecDepth 100000
def lsI (m : Int) (l : List Int) : Int := l.foldl (fun a z => min a z) m
def ls : List Int → Int
  | [] => 0
  | z :: l => lsI z l
theorem lsI_le (l : List Int) : ∀ m, lsI m l ≤ m ∧ ∀ z ∈ l, lsI m l ≤ z := by
  induction l with
  | nil => intro m; simp [lsI]
  | cons y l ih =>
    intro m
    obtain ⟨h1, h2⟩ := ih (min m y)
    have e : lsI m (y :: l) = lsI (min m y) l := rfl
    rw [e]
    refine ⟨by omega, fun z hz => ?_⟩
    rcases List.mem_cons.1 hz with rfl | hz
    · omega
    · exact h2 z hz
theorem lsI_mem (l : List Int) : ∀ m, lsI m l = m ∨ lsI m l ∈ l := by
  induction l with
  | nil => intro m; exact .inl rfl
  | cons y l ih =>
    intro m
    have e : lsI m (y :: l) = lsI (min m y) l := rfl
    rw [e]
    rcases ih (min m y) with h | h
    · rw [h]
      by_cases hm : m ≤ y
      · exact .inl (by omega)
      · exact .inr (by rw [show min m y = y by omega]; simp)
    · exact .inr (List.mem_cons_of_mem _ h)
theorem lsI_snoc (m z : Int) (l : List Int) : lsI m (l ++ [z]) = min (lsI m l) z := by simp [lsI]
theorem ls_step {l : List Int} {k : Nat} {z : Int} (hk : 0 < k) (h : l[k]? = some z) : ls (l.take (k + 1)) = min (ls (l.take k)) z := by
  have hl := (List.getElem?_eq_some_iff.1 h).1
  rw [List.take_add_one, h]
  obtain ⟨y, r, hr⟩ : ∃ y r, l.take k = y :: r := by
    cases hr : l.take k with
    | nil => have h2 := congrArg List.length hr; rw [List.length_take] at h2; simp only [List.length_nil] at h2; omega
    | cons y r => exact ⟨y, r, rfl⟩
  rw [hr]
  show lsI y (r ++ [z]) = min (lsI y r) z
  exact lsI_snoc y z r
theorem ls_first {l : List Int} {z : Int} (h : l[0]? = some z) : ls (l.take 1) = z := by
  cases l with
  | nil => simp at h
  | cons y r => simp at h; subst h; rfl
def lsF (z : Int) (l : List Int) (k : Nat) : Int := lsI z (l.take k)
theorem lsF_step {z x : Int} {l : List Int} {k : Nat} (h : l[k]? = some x) : lsF z l (k + 1) = min (lsF z l k) x := by
  unfold lsF
  rw [List.take_add_one, h]
  exact lsI_snoc _ _ _
theorem lsF_all {z : Int} {l : List Int} (h : l[0]? = some z) : lsF z l l.length = ls l := by
  unfold lsF
  rw [List.take_length]
  cases l with
  | nil => simp at h
  | cons y r =>
    simp at h
    subst h
    show lsI (min y y) r = lsI y r
    rw [Int.min_self]
theorem ls_le {l : List Int} : ∀ z ∈ l, ls l ≤ z := by
  cases l with
  | nil => intro z h; simp at h
  | cons y l =>
    intro z hz
    obtain ⟨h1, h2⟩ := lsI_le l y
    rcases List.mem_cons.1 hz with rfl | hz
    · exact h1
    · exact h2 z hz
theorem ls_mem {l : List Int} (h : l ≠ []) : ls l ∈ l := by
  cases l with
  | nil => exact absurd rfl h
  | cons y l =>
    rcases lsI_mem l y with h1 | h1
    · show lsI y l ∈ y :: l
      rw [h1]; simp
    · exact List.mem_cons_of_mem _ h1
theorem ls_in {l : List Int} (h : ∀ z ∈ l, In64 z) : In64 (ls l) := by
  by_cases he : l = []
  · subst he; simp [ls, In64]
  · exact h _ (ls_mem he)
def dfs (m : Int) (l : List Int) : List Nat := l.map fun z => (z - m).toNat
theorem dfs_length (m : Int) (l : List Int) : (dfs m l).length = l.length := by simp [dfs]
theorem dfs_lt {l : List Int} {m : Int} (h : ∀ z ∈ l, In64 z) (hm : In64 m) : ∀ a ∈ dfs m l, a < 18446744073709551616 := by
  intro a ha
  obtain ⟨z, hz, rfl⟩ := List.mem_map.1 ha
  have := h z hz
  unfold In64 at this hm
  omega
theorem dfs_at {l : List Int} {m z : Int} {k : Nat} (h : l[k]? = some z) : (dfs m l)[k]? = some (z - m).toNat := by unfold dfs; rw [List.getElem?_map, h]; rfl
theorem dfs_step {l : List Int} {m z : Int} {k : Nat} (h : l[k]? = some z) : (dfs m l).take (k + 1) = (dfs m l).take k ++ [(z - m).toNat] := take_snoc (dfs_at h)
def foB (l : List Int) : List Nat := [wd (dfs (ls l) l)] ++ packB (wd (dfs (ls l) l)) (dfs (ls l) l)
def fo (l : List Int) : List Nat := if l = [] then [] else vb (zg (ls l)) ++ foB l
theorem fo_ne {l : List Int} (h : l ≠ []) : fo l = vb (zg (ls l)) ++ foB l := by unfold fo; rw [if_neg h]
theorem wd_dfs {l : List Int} (h : ∀ z ∈ l, In64 z) : wd (dfs (ls l) l) ≤ 64 := (wd_le _ 64).2 (by intro a ha; have := dfs_lt h (ls_in h) a ha; omega)
theorem foB_length {l : List Int} (h : ∀ z ∈ l, In64 z) (hn : l.length ≤ 65536) : (foB l).length ≤ 524290 := by
  unfold foB
  rw [List.length_append, packB_length, dfs_length]
  have h1 := wd_dfs h
  have h2 : l.length * wd (dfs (ls l) l) ≤ 65536 * 64 := Nat.mul_le_mul hn h1
  simp only [List.length_singleton]
  unfold sz; omega
theorem fo_length {l : List Int} (h : ∀ z ∈ l, In64 z) (hn : l.length ≤ 65536) : (fo l).length ≤ 524300 := by
  unfold fo
  split
  · simp
  · have h1 := foB_length h hn
    have h2 := (vb_length (zg (ls l))).2
    rw [List.length_append]; omega
theorem fo_byte {l : List Int} (h : ∀ z ∈ l, In64 z) : ∀ b ∈ fo l, b < 256 := by
  intro b hb
  unfold fo at hb
  split at hb
  · simp at hb
  · rcases List.mem_append.1 hb with hb | hb
    · exact vb_byte _ (zg_int (ls_in h)).2 b hb
    · unfold foB at hb
      have := wd_dfs h
      rcases List.mem_append.1 hb with hb | hb
      · simp at hb; omega
      · exact packB_byte _ _ b hb
end Go.Proofs.YtpgdlmnhomnblaaGreatDoor
