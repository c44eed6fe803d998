/- Plain facts on lists of all numbers that are there: rising, each once; the places in them; the form by a list. No program, no condition. -/
import Derived.Test.YtieknhhhcjdbnaaDoorJ7
import Derived.Test.YtieknhhhcjdbnaaDoorJ8
namespace Go.Proofs.YtieknhhhcjdbnaaDoor
open Go.RowKit
set_option linter.unusedVariables false
set_option linter.unusedSimpArgs false
set_option maxRecDepth 100000

/-- It rises, each number once. -/
def Rise (L : List Int) : Prop := L.Pairwise (· < ·)
/-- A number, put in its place in what rises. -/
def insD (z : Int) : List Int → List Int
  | [] => [z]
  | y :: l => if y < z then y :: insD z l else if y = z then y :: l else z :: y :: l
/-- The list of all numbers that are there. -/
def lstD (l : List Int) : List Int := l.foldl (fun o z => insD z o) []
theorem insD_mem (z x : Int) (L : List Int) : x ∈ insD z L ↔ x = z ∨ x ∈ L := by
  induction L with
  | nil => simp [insD]
  | cons y L ih =>
    simp only [insD]
    split
    · rw [List.mem_cons, ih, List.mem_cons]
      constructor
      · rintro (h | h | h) <;> simp [h]
      · rintro (h | h | h) <;> simp [h]
    · split
      · rename_i h1 h2
        subst h2
        rw [List.mem_cons]
        constructor
        · rintro (h | h) <;> simp [h]
        · rintro (h | h | h) <;> simp [h]
      · rw [List.mem_cons]
theorem insD_rise (z : Int) (L : List Int) (h : Rise L) : Rise (insD z L) := by
  induction L with
  | nil => simp [insD, Rise]
  | cons y L ih =>
    obtain ⟨h1, h2⟩ := List.pairwise_cons.1 h
    simp only [insD]
    split
    · rename_i hy
      refine List.pairwise_cons.2 ⟨fun x hx => ?_, ih h2⟩
      rcases (insD_mem z x L).1 hx with rfl | hx
      · exact hy
      · exact h1 x hx
    · split
      · exact h
      · refine List.pairwise_cons.2 ⟨fun x hx => ?_, h⟩
        rcases List.mem_cons.1 hx with rfl | hx
        · omega
        · have := h1 x hx; omega
theorem foldD_mem (l : List Int) : ∀ (o : List Int) (x : Int), x ∈ l.foldl (fun o z => insD z o) o ↔ x ∈ l ∨ x ∈ o := by
  induction l with
  | nil => intro o x; simp
  | cons z l ih =>
    intro o x
    rw [List.foldl_cons, ih, insD_mem, List.mem_cons]
    constructor
    · rintro (h | h | h) <;> simp [h]
    · rintro ((h | h) | h) <;> simp [h]
theorem foldD_rise (l : List Int) : ∀ o, Rise o → Rise (l.foldl (fun o z => insD z o) o) := by
  induction l with
  | nil => intro o h; exact h
  | cons z l ih => intro o h; exact ih _ (insD_rise z o h)
theorem lstD_mem (l : List Int) (x : Int) : x ∈ lstD l ↔ x ∈ l := by unfold lstD; rw [foldD_mem]; simp
theorem lstD_rise (l : List Int) : Rise (lstD l) := foldD_rise l [] List.Pairwise.nil
theorem rise_ext : ∀ (a b : List Int), Rise a → Rise b → (∀ x, x ∈ a ↔ x ∈ b) → a = b := by
  intro a
  induction a with
  | nil =>
    intro b _ _ h
    cases b with
    | nil => rfl
    | cons y b => have := (h y).2 (by simp); simp at this
  | cons x a ih =>
    intro b ha hb h
    cases b with
    | nil => have := (h x).1 (by simp); simp at this
    | cons y b =>
      obtain ⟨a1, a2⟩ := List.pairwise_cons.1 ha
      obtain ⟨b1, b2⟩ := List.pairwise_cons.1 hb
      have exy : x = y := by
        have h1 := (h x).1 (by simp)
        have h2 := (h y).2 (by simp)
        rcases List.mem_cons.1 h1 with h1 | h1
        · exact h1
        · rcases List.mem_cons.1 h2 with h2 | h2
          · exact h2.symm
          · have := b1 x h1; have := a1 y h2; omega
      subst exy
      congr 1
      refine ih b a2 b2 fun z => ?_
      constructor
      · intro hz
        rcases List.mem_cons.1 ((h z).1 (List.mem_cons_of_mem _ hz)) with rfl | h1
        · have := a1 z hz; omega
        · exact h1
      · intro hz
        rcases List.mem_cons.1 ((h z).2 (List.mem_cons_of_mem _ hz)) with rfl | h1
        · have := b1 z hz; omega
        · exact h1
theorem insD_length (z : Int) (L : List Int) : (insD z L).length ≤ L.length + 1 := by
  induction L with
  | nil => simp [insD]
  | cons y L ih =>
    simp only [insD]
    split
    · simp only [List.length_cons]; omega
    · split <;> simp
theorem foldD_length (l : List Int) : ∀ o : List Int, (l.foldl (fun o z => insD z o) o).length ≤ o.length + l.length := by
  induction l with
  | nil => intro o; simp
  | cons z l ih =>
    intro o
    have h1 := ih (insD z o)
    have h2 := insD_length z o
    rw [List.foldl_cons, List.length_cons]; omega
theorem lstD_length (l : List Int) : (lstD l).length ≤ l.length := by have := foldD_length l []; simp at this; exact this
theorem lstD_in {l : List Int} (h : ∀ z ∈ l, In64 z) : ∀ z ∈ lstD l, In64 z := fun z hz => h z ((lstD_mem l z).1 hz)
theorem lstD_same {l m : List Int} (h : ∀ x, x ∈ l ↔ x ∈ m) : lstD l = lstD m := rise_ext _ _ (lstD_rise l) (lstD_rise m) fun x => by rw [lstD_mem, lstD_mem, h]
theorem lstD_of_rise {L : List Int} (h : Rise L) : lstD L = L := rise_ext _ _ (lstD_rise L) h fun x => lstD_mem L x
theorem lstD_nil : lstD [] = [] := rfl
theorem lstD_snoc (l : List Int) (z : Int) : lstD (l ++ [z]) = insD z (lstD l) := by simp [lstD]
/-- The numbers, each once, in the order in which they come. -/
def uqD (l : List Int) : List Int := l.foldl (fun o z => if z ∈ o then o else o ++ [z]) []
theorem uqD_snoc (l : List Int) (z : Int) : uqD (l ++ [z]) = if z ∈ uqD l then uqD l else uqD l ++ [z] := by unfold uqD; rw [List.foldl_append]; rfl
theorem uqD_both (l : List Int) : (∀ x, x ∈ uqD l ↔ x ∈ l) ∧ (uqD l).Nodup ∧ (uqD l).length ≤ l.length := by
  have key : ∀ m : List Int, (∀ x, x ∈ uqD m.reverse ↔ x ∈ m.reverse) ∧ (uqD m.reverse).Nodup ∧ (uqD m.reverse).length ≤ m.reverse.length := by
    intro m
    induction m with
    | nil => simp [uqD]
    | cons z m ih =>
      obtain ⟨i1, i2, i3⟩ := ih
      rw [List.reverse_cons, uqD_snoc]
      by_cases hz : z ∈ uqD m.reverse
      · rw [if_pos hz]
        refine ⟨fun x => ?_, i2, by rw [List.length_append]; omega⟩
        rw [i1 x, List.mem_append, List.mem_singleton]
        constructor
        · exact .inl
        · rintro (h | rfl)
          · exact h
          · exact (i1 x).1 hz
      · rw [if_neg hz]
        refine ⟨fun x => ?_, ?_, by simp only [List.length_append, List.length_singleton]; omega⟩
        · rw [List.mem_append, List.mem_append, i1 x]
        · rw [List.nodup_append]
          refine ⟨i2, by simp, ?_⟩
          intro a ha b hb e
          rw [List.mem_singleton] at hb
          subst hb
          subst e
          exact hz ha
  have := key l.reverse
  rwa [List.reverse_reverse] at this
theorem uqD_mem (l : List Int) (x : Int) : x ∈ uqD l ↔ x ∈ l := (uqD_both l).1 x
theorem uqD_length (l : List Int) : (uqD l).length ≤ l.length := (uqD_both l).2.2
/-- Sorted, they are the list. -/
theorem sort_uqD (l : List Int) : (uqD l).mergeSort (fun x y => decide (x ≤ y)) = lstD l := by
  have hp : ((uqD l).mergeSort (fun x y => decide (x ≤ y))).Perm (uqD l) := List.mergeSort_perm _ _
  have hs : ((uqD l).mergeSort (fun x y => decide (x ≤ y))).Pairwise (fun a b => decide (a ≤ b) = true) := List.pairwise_mergeSort (fun a b c h1 h2 => by simp at *; omega) (fun a b => by simp; omega) _
  have hn : ((uqD l).mergeSort (fun x y => decide (x ≤ y))).Nodup := hp.nodup_iff.2 (uqD_both l).2.1
  refine rise_ext _ _ ?_ (lstD_rise l) fun x => by rw [hp.mem_iff, uqD_mem, lstD_mem]
  unfold Rise
  refine (hs.and hn).imp ?_
  rintro a b ⟨h1, h2⟩
  have h3 : a ≤ b := by simpa using h1
  have h4 : a ≠ b := h2
  omega
/-! Places. -/
/-- The place of a number. -/
def posD (L : List Int) (z : Int) : Nat := L.idxOf z
theorem posD_lt {L : List Int} {z : Int} (h : z ∈ L) : posD L z < L.length := List.idxOf_lt_length_of_mem h
theorem posD_at {L : List Int} {z : Int} (h : z ∈ L) : L[posD L z]? = some z := by
  have hl := posD_lt h
  rw [List.getElem?_eq_getElem hl]
  congr 1
  exact List.getElem_idxOf hl
theorem rise_inj {L : List Int} (h : Rise L) {i j : Nat} {z : Int} (hi : L[i]? = some z) (hj : L[j]? = some z) : i = j := by
  obtain ⟨hi1, hi2⟩ := List.getElem?_eq_some_iff.1 hi
  obtain ⟨hj1, hj2⟩ := List.getElem?_eq_some_iff.1 hj
  have hp := List.pairwise_iff_getElem.1 h
  rcases Nat.lt_trichotomy i j with hlt | he | hlt
  · have := hp i j hi1 hj1 hlt; omega
  · exact he
  · have := hp j i hj1 hi1 hlt; omega
theorem posD_of {L : List Int} (h : Rise L) {i : Nat} {z : Int} (hi : L[i]? = some z) : posD L z = i := rise_inj h (posD_at (List.mem_of_getElem? hi)) hi
/-- The place of each number in the list of all. -/
def plcD (l : List Int) : List Nat := l.map (posD (lstD l))
theorem plcD_length (l : List Int) : (plcD l).length = l.length := by simp [plcD]
theorem plcD_lt (l : List Int) : ∀ a ∈ plcD l, a < (lstD l).length := by
  intro a h
  obtain ⟨z, hz, rfl⟩ := List.mem_map.1 h
  exact posD_lt ((lstD_mem l z).2 hz)
theorem plcD_all (l : List Int) (i : Nat) (h : i < (lstD l).length) : i ∈ plcD l := by
  have hi : (lstD l)[i]? = some (lstD l)[i] := List.getElem?_eq_getElem h
  exact List.mem_map.2 ⟨_, (lstD_mem l _).1 (List.getElem_mem h), posD_of (lstD_rise l) hi⟩
theorem wd_plcD (l : List Int) : wd (plcD l) = blen ((lstD l).length - 1) := by
  have h1 : wd (plcD l) ≤ blen ((lstD l).length - 1) := by
    rw [wd_le]
    intro a ha
    have hlt := plcD_lt l a ha
    have h2 := (blen_le ((lstD l).length - 1) _).1 (Nat.le_refl _)
    omega
  have h2 : blen ((lstD l).length - 1) ≤ wd (plcD l) := by
    rw [blen_le]
    rcases Nat.eq_zero_or_pos (lstD l).length with h0 | h0
    · rw [h0]; exact Nat.two_pow_pos _
    · exact (wd_le (plcD l) _).1 (Nat.le_refl _) _ (plcD_all l _ (by omega))
  omega
/-! The form. -/
/-- How much each number is above the one ahead, less 1. -/
def gpD (p : Int) : List Int → List Nat
  | [] => []
  | z :: l => (z - p - 1).toNat :: gpD z l
/-- The short numbers of a list behind its count. -/
def htD : List Int → List Nat
  | [] => []
  | z :: l => zg z :: gpD z l
def hnD (L : List Int) : List Nat := L.length :: htD L
/-- Short numbers, one behind the other. -/
def vbs (ns : List Nat) : List Nat := ns.flatMap vb
theorem vbs_append (a b : List Nat) : vbs (a ++ b) = vbs a ++ vbs b := by simp [vbs]
theorem vbs_one (a : Nat) : vbs [a] = vb a := by simp [vbs]
theorem vbs_cons (a : Nat) (l : List Nat) : vbs (a :: l) = vb a ++ vbs l := by simp [vbs]
theorem vbs_step {l : List Nat} {k a : Nat} (h : l[k]? = some a) : vbs (l.take (k + 1)) = vbs (l.take k) ++ vb a := by rw [take_snoc h, vbs_append, vbs_one]
theorem vbs_length (l : List Nat) : (vbs l).length ≤ 10 * l.length := by
  induction l with
  | nil => simp [vbs]
  | cons a l ih =>
    have := vb_length a
    rw [vbs_cons, List.length_append, List.length_cons]; omega
theorem vbs_byte (l : List Nat) (h : ∀ a ∈ l, a < 18446744073709551616) : ∀ b ∈ vbs l, b < 256 := by
  intro b hb
  obtain ⟨a, ha, hb⟩ := List.mem_flatMap.1 hb
  exact vb_byte _ (h a ha) b hb
theorem vbs_pl (ns : List Nat) : vbs ns = pl (ns.map fun v : Nat => zagI (v : Int)) := by
  induction ns with
  | nil => rfl
  | cons a l ih => rw [vbs_cons, List.map_cons, pl_cons, zg_zagI, ih]
theorem gpD_length (L : List Int) : ∀ p, (gpD p L).length = L.length := by
  induction L with
  | nil => intro p; rfl
  | cons z l ih => intro p; simp [gpD, ih]
theorem htD_length (L : List Int) : (htD L).length = L.length := by cases L <;> simp [htD, gpD_length]
theorem gpD_lt (L : List Int) : ∀ p, In64 p → (∀ z ∈ L, In64 z) → ∀ a ∈ gpD p L, a < 18446744073709551616 := by
  induction L with
  | nil => intro p _ _ a h; simp [gpD] at h
  | cons z l ih =>
    intro p hp hl a h
    have hz := hl z (by simp)
    unfold In64 at hp hz
    rcases List.mem_cons.1 h with rfl | h
    · omega
    · exact ih z hz (fun x hx => hl x (by simp [hx])) a h
theorem htD_lt (L : List Int) (h : ∀ z ∈ L, In64 z) : ∀ a ∈ htD L, a < 18446744073709551616 := by
  cases L with
  | nil => intro a ha; simp [htD] at ha
  | cons z l =>
    intro a ha
    rcases List.mem_cons.1 ha with rfl | ha
    · exact (zg_int (h z (by simp))).2
    · exact gpD_lt l z (h z (by simp)) (fun x hx => h x (by simp [hx])) a ha
theorem gpD_at (L : List Int) : ∀ (p : Int) (k : Nat) (y z : Int), (p :: L)[k]? = some y → L[k]? = some z → (gpD p L)[k]? = some (z - y - 1).toNat := by
  induction L with
  | nil => intro p k y z _ h; simp at h
  | cons x l ih =>
    intro p k y z hy hz
    cases k with
    | zero => simp at hy hz; subst hy; subst hz; rfl
    | succ k =>
      simp only [List.getElem?_cons_succ] at hy hz
      simp only [gpD, List.getElem?_cons_succ]
      exact ih x k y z hy hz
theorem htD_zero {L : List Int} {z : Int} (h : L[0]? = some z) : (htD L)[0]? = some (zg z) := by
  cases L with
  | nil => simp at h
  | cons x l => simp at h; subst h; rfl
theorem htD_succ {L : List Int} {k : Nat} {y z : Int} (hy : L[k]? = some y) (hz : L[k + 1]? = some z) : (htD L)[k + 1]? = some (z - y - 1).toNat := by
  cases L with
  | nil => simp at hy
  | cons x l =>
    simp only [List.getElem?_cons_succ] at hz
    show (gpD x l)[k]? = _
    exact gpD_at l x k y z hy hz
/-- How much a number is above the one ahead, less 1, reckoned in 64 bits. -/
theorem gap_eq {y z : Int} (hy : In64 y) (hz : In64 z) (h : y < z) : IntKind.u64.wrap (IntKind.u64.wrap (wrap64 (z - y)) - 1) = ((z - y - 1).toNat : Int) := by
  rw [u64w, u64w]
  unfold wrap64
  unfold In64 at hy hz
  omega
theorem gap_eq2 {y z : Int} (hy : In64 y) (hz : In64 z) (h : y < z) : IntKind.u64.wrap (IntKind.u64.wrap (IntKind.u64.wrap z - IntKind.u64.wrap y) - 1) = ((z - y - 1).toNat : Int) := by
  rw [u64w, u64w, u64w, u64w]
  unfold In64 at hy hz
  omega
/-- The head of the form: the list. -/
def hdD (L : List Int) : List Nat := vbs (hnD L)
theorem hdD_eq (L : List Int) : hdD L = vb L.length ++ vbs (htD L) := vbs_cons _ _
theorem hdD_length (L : List Int) : (hdD L).length ≤ 10 * L.length + 10 := by
  have := vbs_length (hnD L)
  unfold hdD; simp only [hnD, List.length_cons, htD_length] at this ⊢; omega
/-- The form. -/
def dc (l : List Int) : List Nat := hdD (lstD l) ++ [wd (plcD l)] ++ packB (wd (plcD l)) (plcD l)
theorem dc_flat (l : List Int) : dc l = [hdD (lstD l), [wd (plcD l)], packB (wd (plcD l)) (plcD l)].flatten := by simp [dc]
theorem wd_plcD_le (l : List Int) (h : l.length ≤ 65536) : wd (plcD l) ≤ 16 := by
  rw [wd_plcD, blen_le]
  have := lstD_length l
  omega
theorem dc_parts (l : List Int) (h : l.length ≤ 65536) : (hdD (lstD l)).length ≤ 655370 ∧ (packB (wd (plcD l)) (plcD l)).length ≤ 131073 := by
  have h1 := lstD_length l
  have h2 := hdD_length (lstD l)
  refine ⟨by omega, ?_⟩
  rw [packB_length, plcD_length]
  have h3 := wd_plcD_le l h
  have h4 : l.length * wd (plcD l) ≤ 65536 * 16 := Nat.mul_le_mul h h3
  unfold sz; omega
theorem dc_length (l : List Int) (h : l.length ≤ 65536) : (dc l).length ≤ 786444 := by
  obtain ⟨h1, h2⟩ := dc_parts l h
  unfold dc; rw [List.length_append, List.length_append, List.length_singleton]; omega
theorem dc_byte (l : List Int) (hn : l.length ≤ 65536) (h : ∀ z ∈ l, In64 z) : ∀ b ∈ dc l, b < 256 := by
  intro b hb
  have hw := wd_plcD_le l hn
  have hl := lstD_length l
  unfold dc at hb
  rcases List.mem_append.1 hb with hb | hb
  · rcases List.mem_append.1 hb with hb | hb
    · refine vbs_byte (hnD (lstD l)) (fun a ha => ?_) b hb
      rcases List.mem_cons.1 ha with rfl | ha
      · omega
      · exact htD_lt _ (lstD_in h) a ha
    · simp at hb; omega
  · exact packB_byte _ _ b hb
end Go.Proofs.YtieknhhhcjdbnaaDoor
