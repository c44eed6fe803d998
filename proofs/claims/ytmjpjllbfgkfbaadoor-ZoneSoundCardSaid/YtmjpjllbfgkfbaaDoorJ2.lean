/- Texts joined: DlPlain DcPlain FoPlain TxOrd TxPlain CkPlain VlOrd PrTree Owned VlApart. -/
import Derived.Test.YtmjpjllbfgkfbaaDoorJ1
import Derived.WalkKit
import Derived.RangeFuncOwn
/- Plain facts on steps: how much each number is more than the one ahead, what has these steps, and the form of steps. No program, no condition. -/
namespace Go.Proofs.YtmjpjllbfgkfbaaDoor
open Go.RowKit
set_option linter.unusedVariables false
set_option linter.unusedSimpArgs false
set_option maxRecDepth 100000

theorem w64_back (p z : Int) (h : In64 z) : wrap64 (p + wrap64 (z - p)) = z := by unfold In64 at h; rw [w64, w64]; omega
theorem w64_forth (p z : Int) (h : In64 z) : wrap64 (wrap64 (p + z) - p) = z := by unfold In64 at h; rw [w64, w64]; omega
theorem w64_shift (y z d : Int) : wrap64 (wrap64 (y + d) - wrap64 (z + d)) = wrap64 (y - z) := by rw [w64, w64, w64, w64]; omega
/-- The steps behind 'p'. -/
def stp (p : Int) : List Int → List Int
  | [] => []
  | z :: l => wrap64 (z - p) :: stp z l
/-- What has these steps, behind 'p'. -/
def sms (p : Int) : List Int → List Int
  | [] => []
  | s :: l => wrap64 (p + s) :: sms (wrap64 (p + s)) l
theorem stp_length (l : List Int) : ∀ p, (stp p l).length = l.length := by
  induction l with
  | nil => intro p; rfl
  | cons z l ih => intro p; simp [stp, ih]
theorem sms_length (l : List Int) : ∀ p, (sms p l).length = l.length := by
  induction l with
  | nil => intro p; rfl
  | cons z l ih => intro p; simp [sms, ih]
theorem stp_in (l : List Int) : ∀ p, ∀ z ∈ stp p l, In64 z := by
  induction l with
  | nil => intro p z h; simp [stp] at h
  | cons y l ih =>
    intro p z h
    rcases List.mem_cons.1 h with rfl | h
    · exact w64_in _
    · exact ih y z h
theorem sms_in (l : List Int) : ∀ p, ∀ z ∈ sms p l, In64 z := by
  induction l with
  | nil => intro p z h; simp [sms] at h
  | cons y l ih =>
    intro p z h
    rcases List.mem_cons.1 h with rfl | h
    · exact w64_in _
    · exact ih _ z h
theorem sms_stp (l : List Int) (h : ∀ z ∈ l, In64 z) : ∀ p, sms p (stp p l) = l := by
  induction l with
  | nil => intro p; rfl
  | cons z l ih =>
    intro p
    have e := w64_back p z (h z (by simp))
    simp only [stp, sms]
    rw [e, ih (fun x hx => h x (by simp [hx]))]
theorem stp_sms (l : List Int) (h : ∀ z ∈ l, In64 z) : ∀ p, stp p (sms p l) = l := by
  induction l with
  | nil => intro p; rfl
  | cons z l ih =>
    intro p
    have e := w64_forth p z (h z (by simp))
    simp only [stp, sms]
    rw [e, ih (fun x hx => h x (by simp [hx]))]
/-- The number ahead of place 'k'. -/
def ahd (p : Int) (l : List Int) (k : Nat) : Int := ((p :: l)[k]?).getD 0
theorem ahd_zero (p : Int) (l : List Int) : ahd p l 0 = p := rfl
theorem ahd_succ {p : Int} {l : List Int} {k : Nat} {z : Int} (h : l[k]? = some z) : ahd p l (k + 1) = z := by unfold ahd; simp [h]
theorem ahd_in {l : List Int} (h : ∀ z ∈ l, In64 z) (k : Nat) : In64 (ahd 0 l k) := by
  unfold ahd
  cases hk : (0 :: l)[k]? with
  | none => simp [In64]
  | some z =>
    rcases List.mem_cons.1 (List.mem_of_getElem? hk) with rfl | h1
    · simp [In64]
    · simpa using h z h1
theorem stp_at (l : List Int) : ∀ (p : Int) (k : Nat) (z : Int), l[k]? = some z → (stp p l)[k]? = some (wrap64 (z - ahd p l k)) := by
  induction l with
  | nil => intro p k z h; simp at h
  | cons y l ih =>
    intro p k z h
    cases k with
    | zero => simp at h; subst h; simp [stp, ahd]
    | succ k =>
      simp at h
      have := ih y k z h
      simp only [stp, List.getElem?_cons_succ]
      rw [this]
      rfl
/-- The sum behind so many steps. -/
def smA (p : Int) (l : List Int) : Nat → Int
  | 0 => p
  | k + 1 => wrap64 (smA p l k + (l[k]?).getD 0)
theorem smA_succ {p : Int} {l : List Int} {k : Nat} {z : Int} (h : l[k]? = some z) : smA p l (k + 1) = wrap64 (smA p l k + z) := by simp [smA, h]
theorem smA_in {p : Int} (hp : In64 p) (l : List Int) (k : Nat) : In64 (smA p l k) := by
  cases k with
  | zero => exact hp
  | succ k => exact w64_in _
theorem smA_cons (p z : Int) (l : List Int) : ∀ k, smA (wrap64 (p + z)) l k = smA p (z :: l) (k + 1) := by
  intro k
  induction k with
  | zero => simp [smA]
  | succ k ih => simp only [smA] at ih ⊢; rw [ih]; simp
theorem sms_at (l : List Int) : ∀ (p : Int) (k : Nat) (z : Int), l[k]? = some z → (sms p l)[k]? = some (smA p l (k + 1)) := by
  induction l with
  | nil => intro p k z h; simp at h
  | cons y l ih =>
    intro p k z h
    cases k with
    | zero => simp [sms, smA]
    | succ k =>
      simp at h
      simp only [sms, List.getElem?_cons_succ]
      rw [ih _ k z h, smA_cons]
/-! The form. -/
/-- The steps behind the first number, each turned. -/
def zb (l : List Int) : List Nat := ((stp 0 l).drop 1).map zg
theorem zb_length (l : List Int) : (zb l).length = l.length - 1 := by simp [zb, stp_length]
theorem zb_lt (l : List Int) : ∀ a ∈ zb l, a < 18446744073709551616 := by
  intro a h
  obtain ⟨z, hz, rfl⟩ := List.mem_map.1 h
  exact (zg_int (stp_in l 0 z (List.mem_of_mem_drop hz))).2
theorem wd_64 (l : List Nat) (h : ∀ a ∈ l, a < 18446744073709551616) : wd l ≤ 64 := (wd_le l 64).2 (by intro a ha; have := h a ha; omega)
theorem wd_zb (l : List Int) : wd (zb l) ≤ 64 := wd_64 _ (zb_lt l)
/-- The parts of the form: the first number, the width, the steps behind. -/
def dl1 (l : List Int) : List Nat := match l with | [] => [] | z :: _ => vb (zg z)
def dl2 (l : List Int) : List Nat := if l.length ≤ 1 then [] else [wd (zb l)]
def dl3 (l : List Int) : List Nat := if l.length ≤ 1 then [] else packB (wd (zb l)) (zb l)
def dl (l : List Int) : List Nat := dl1 l ++ dl2 l ++ dl3 l
theorem dl_nil : dl [] = [] := rfl
theorem dl1_cons (z : Int) (l : List Int) : dl1 (z :: l) = vb (zg z) := rfl
theorem dl_parts (l : List Int) : (dl1 l).length ≤ 10 ∧ (dl2 l).length ≤ 1 ∧ (l.length ≤ 65536 → (dl3 l).length ≤ 524289) := by
  refine ⟨?_, ?_, fun h => ?_⟩
  · cases l with
    | nil => simp [dl1]
    | cons z l => rw [dl1_cons]; exact (vb_length _).2
  · unfold dl2; split <;> simp
  · unfold dl3
    split
    · simp
    · rw [packB_length, zb_length]
      have h1 := wd_zb l
      have h2 : (l.length - 1) * wd (zb l) ≤ 65536 * 64 := Nat.mul_le_mul (by omega) h1
      unfold sz; omega
theorem dl_length (l : List Int) (h : l.length ≤ 65536) : (dl l).length ≤ 524300 := by
  obtain ⟨h1, h2, h3⟩ := dl_parts l
  have := h3 h
  unfold dl; rw [List.length_append, List.length_append]; omega
theorem dl_byte (l : List Int) (h : ∀ z ∈ l, In64 z) : ∀ b ∈ dl l, b < 256 := by
  intro b hb
  unfold dl at hb
  rcases List.mem_append.1 hb with hb | hb
  · rcases List.mem_append.1 hb with hb | hb
    · cases l with
      | nil => simp [dl1] at hb
      | cons z l => exact vb_byte _ (zg_int (h z (by simp))).2 b hb
    · unfold dl2 at hb
      have := wd_zb l
      split at hb
      · simp at hb
      · simp at hb; omega
  · unfold dl3 at hb
    split at hb
    · simp at hb
    · exact packB_byte _ _ b hb
/-- What is behind the head says all of the steps behind the first number. -/
theorem stp_shift (d : Int) (l : List Int) : ∀ z, stp (wrap64 (z + d)) (l.map fun y => wrap64 (y + d)) = stp z l := by
  induction l with
  | nil => intro z; rfl
  | cons y l ih => intro z; simp only [List.map_cons, stp]; rw [w64_shift, ih]
theorem zb_shift (d : Int) (l : List Int) : zb (l.map fun y => wrap64 (y + d)) = zb l := by
  cases l with
  | nil => rfl
  | cons z l => simp [zb, stp, stp_shift]
theorem drop_shift (d : Int) (l : List Int) : (stp 0 (l.map fun y => wrap64 (y + d))).drop 1 = (stp 0 l).drop 1 := by
  cases l with
  | nil => rfl
  | cons z l => simp [stp, stp_shift]
theorem dl_behind (l : List Int) : (dl l).drop (dl1 l).length = dl2 l ++ dl3 l := by
  unfold dl; rw [List.append_assoc, List.drop_append_of_le_length (Nat.le_refl _), List.drop_length, List.nil_append]
theorem dl_shift (d : Int) (l : List Int) : dl2 (l.map fun y => wrap64 (y + d)) ++ dl3 (l.map fun y => wrap64 (y + d)) = dl2 l ++ dl3 l := by
  unfold dl2 dl3; rw [zb_shift, List.length_map]
end Go.Proofs.YtmjpjllbfgkfbaaDoor

/- Plain facts on lists of all numbers that are there: rising, each once; the places in them; the form by a list. No program, no condition. -/
namespace Go.Proofs.YtmjpjllbfgkfbaaDoor
open Go.RowKit
set_option linter.unusedVariables false
set_option linter.unusedSimpArgs false
set_option maxRecDepth 100000

/-- It rises, each number once. -/
def Rise (L : List Int) : Prop := L.Pairwise (· < ·)
/-- A number, put in its place in what rises. -/
def insD (z : Int) : List Int → List Int
  | [] => [z]
  | y :: l => if y < z then y :: insD z l else if y = z then y :: l else z :: y :: l
/-- The list of all numbers that are there. -/
def lstD (l : List Int) : List Int := l.foldl (fun o z => insD z o) []
theorem insD_mem (z x : Int) (L : List Int) : x ∈ insD z L ↔ x = z ∨ x ∈ L := by
  induction L with
  | nil => simp [insD]
  | cons y L ih =>
    simp only [insD]
    split
    · rw [List.mem_cons, ih, List.mem_cons]
      constructor
      · rintro (h | h | h) <;> simp [h]
      · rintro (h | h | h) <;> simp [h]
    · split
      · rename_i h1 h2
        subst h2
        rw [List.mem_cons]
        constructor
        · rintro (h | h) <;> simp [h]
        · rintro (h | h | h) <;> simp [h]
      · rw [List.mem_cons]
theorem insD_rise (z : Int) (L : List Int) (h : Rise L) : Rise (insD z L) := by
  induction L with
  | nil => simp [insD, Rise]
  | cons y L ih =>
    obtain ⟨h1, h2⟩ := List.pairwise_cons.1 h
    simp only [insD]
    split
    · rename_i hy
      refine List.pairwise_cons.2 ⟨fun x hx => ?_, ih h2⟩
      rcases (insD_mem z x L).1 hx with rfl | hx
      · exact hy
      · exact h1 x hx
    · split
      · exact h
      · refine List.pairwise_cons.2 ⟨fun x hx => ?_, h⟩
        rcases List.mem_cons.1 hx with rfl | hx
        · omega
        · have := h1 x hx; omega
theorem foldD_mem (l : List Int) : ∀ (o : List Int) (x : Int), x ∈ l.foldl (fun o z => insD z o) o ↔ x ∈ l ∨ x ∈ o := by
  induction l with
  | nil => intro o x; simp
  | cons z l ih =>
    intro o x
    rw [List.foldl_cons, ih, insD_mem, List.mem_cons]
    constructor
    · rintro (h | h | h) <;> simp [h]
    · rintro ((h | h) | h) <;> simp [h]
theorem foldD_rise (l : List Int) : ∀ o, Rise o → Rise (l.foldl (fun o z => insD z o) o) := by
  induction l with
  | nil => intro o h; exact h
  | cons z l ih => intro o h; exact ih _ (insD_rise z o h)
theorem lstD_mem (l : List Int) (x : Int) : x ∈ lstD l ↔ x ∈ l := by unfold lstD; rw [foldD_mem]; simp
theorem lstD_rise (l : List Int) : Rise (lstD l) := foldD_rise l [] List.Pairwise.nil
theorem rise_ext : ∀ (a b : List Int), Rise a → Rise b → (∀ x, x ∈ a ↔ x ∈ b) → a = b := by
  intro a
  induction a with
  | nil =>
    intro b _ _ h
    cases b with
    | nil => rfl
    | cons y b => have := (h y).2 (by simp); simp at this
  | cons x a ih =>
    intro b ha hb h
    cases b with
    | nil => have := (h x).1 (by simp); simp at this
    | cons y b =>
      obtain ⟨a1, a2⟩ := List.pairwise_cons.1 ha
      obtain ⟨b1, b2⟩ := List.pairwise_cons.1 hb
      have exy : x = y := by
        have h1 := (h x).1 (by simp)
        have h2 := (h y).2 (by simp)
        rcases List.mem_cons.1 h1 with h1 | h1
        · exact h1
        · rcases List.mem_cons.1 h2 with h2 | h2
          · exact h2.symm
          · have := b1 x h1; have := a1 y h2; omega
      subst exy
      congr 1
      refine ih b a2 b2 fun z => ?_
      constructor
      · intro hz
        rcases List.mem_cons.1 ((h z).1 (List.mem_cons_of_mem _ hz)) with rfl | h1
        · have := a1 z hz; omega
        · exact h1
      · intro hz
        rcases List.mem_cons.1 ((h z).2 (List.mem_cons_of_mem _ hz)) with rfl | h1
        · have := b1 z hz; omega
        · exact h1
theorem insD_length (z : Int) (L : List Int) : (insD z L).length ≤ L.length + 1 := by
  induction L with
  | nil => simp [insD]
  | cons y L ih =>
    simp only [insD]
    split
    · simp only [List.length_cons]; omega
    · split <;> simp
theorem foldD_length (l : List Int) : ∀ o : List Int, (l.foldl (fun o z => insD z o) o).length ≤ o.length + l.length := by
  induction l with
  | nil => intro o; simp
  | cons z l ih =>
    intro o
    have h1 := ih (insD z o)
    have h2 := insD_length z o
    rw [List.foldl_cons, List.length_cons]; omega
theorem lstD_length (l : List Int) : (lstD l).length ≤ l.length := by have := foldD_length l []; simp at this; exact this
theorem lstD_in {l : List Int} (h : ∀ z ∈ l, In64 z) : ∀ z ∈ lstD l, In64 z := fun z hz => h z ((lstD_mem l z).1 hz)
theorem lstD_same {l m : List Int} (h : ∀ x, x ∈ l ↔ x ∈ m) : lstD l = lstD m := rise_ext _ _ (lstD_rise l) (lstD_rise m) fun x => by rw [lstD_mem, lstD_mem, h]
theorem lstD_of_rise {L : List Int} (h : Rise L) : lstD L = L := rise_ext _ _ (lstD_rise L) h fun x => lstD_mem L x
theorem lstD_nil : lstD [] = [] := rfl
theorem lstD_snoc (l : List Int) (z : Int) : lstD (l ++ [z]) = insD z (lstD l) := by simp [lstD]
/-- The numbers, each once, in the order in which they come. -/
def uqD (l : List Int) : List Int := l.foldl (fun o z => if z ∈ o then o else o ++ [z]) []
theorem uqD_snoc (l : List Int) (z : Int) : uqD (l ++ [z]) = if z ∈ uqD l then uqD l else uqD l ++ [z] := by unfold uqD; rw [List.foldl_append]; rfl
theorem uqD_both (l : List Int) : (∀ x, x ∈ uqD l ↔ x ∈ l) ∧ (uqD l).Nodup ∧ (uqD l).length ≤ l.length := by
  have key : ∀ m : List Int, (∀ x, x ∈ uqD m.reverse ↔ x ∈ m.reverse) ∧ (uqD m.reverse).Nodup ∧ (uqD m.reverse).length ≤ m.reverse.length := by
    intro m
    induction m with
    | nil => simp [uqD]
    | cons z m ih =>
      obtain ⟨i1, i2, i3⟩ := ih
      rw [List.reverse_cons, uqD_snoc]
      by_cases hz : z ∈ uqD m.reverse
      · rw [if_pos hz]
        refine ⟨fun x => ?_, i2, by rw [List.length_append]; omega⟩
        rw [i1 x, List.mem_append, List.mem_singleton]
        constructor
        · exact .inl
        · rintro (h | rfl)
          · exact h
          · exact (i1 x).1 hz
      · rw [if_neg hz]
        refine ⟨fun x => ?_, ?_, by simp only [List.length_append, List.length_singleton]; omega⟩
        · rw [List.mem_append, List.mem_append, i1 x]
        · rw [List.nodup_append]
          refine ⟨i2, by simp, ?_⟩
          intro a ha b hb e
          rw [List.mem_singleton] at hb
          subst hb
          subst e
          exact hz ha
  have := key l.reverse
  rwa [List.reverse_reverse] at this
theorem uqD_mem (l : List Int) (x : Int) : x ∈ uqD l ↔ x ∈ l := (uqD_both l).1 x
theorem uqD_length (l : List Int) : (uqD l).length ≤ l.length := (uqD_both l).2.2
/-- Sorted, they are the list. -/
theorem sort_uqD (l : List Int) : (uqD l).mergeSort (fun x y => decide (x ≤ y)) = lstD l := by
  have hp : ((uqD l).mergeSort (fun x y => decide (x ≤ y))).Perm (uqD l) := List.mergeSort_perm _ _
  have hs : ((uqD l).mergeSort (fun x y => decide (x ≤ y))).Pairwise (fun a b => decide (a ≤ b) = true) := List.pairwise_mergeSort (fun a b c h1 h2 => by simp at *; omega) (fun a b => by simp; omega) _
  have hn : ((uqD l).mergeSort (fun x y => decide (x ≤ y))).Nodup := hp.nodup_iff.2 (uqD_both l).2.1
  refine rise_ext _ _ ?_ (lstD_rise l) fun x => by rw [hp.mem_iff, uqD_mem, lstD_mem]
  unfold Rise
  refine (hs.and hn).imp ?_
  rintro a b ⟨h1, h2⟩
  have h3 : a ≤ b := by simpa using h1
  have h4 : a ≠ b := h2
  omega
/-! Places. -/
/-- The place of a number. -/
def posD (L : List Int) (z : Int) : Nat := L.idxOf z
theorem posD_lt {L : List Int} {z : Int} (h : z ∈ L) : posD L z < L.length := List.idxOf_lt_length_of_mem h
theorem posD_at {L : List Int} {z : Int} (h : z ∈ L) : L[posD L z]? = some z := by
  have hl := posD_lt h
  rw [List.getElem?_eq_getElem hl]
  congr 1
  exact List.getElem_idxOf hl
theorem rise_inj {L : List Int} (h : Rise L) {i j : Nat} {z : Int} (hi : L[i]? = some z) (hj : L[j]? = some z) : i = j := by
  obtain ⟨hi1, hi2⟩ := List.getElem?_eq_some_iff.1 hi
  obtain ⟨hj1, hj2⟩ := List.getElem?_eq_some_iff.1 hj
  have hp := List.pairwise_iff_getElem.1 h
  rcases Nat.lt_trichotomy i j with hlt | he | hlt
  · have := hp i j hi1 hj1 hlt; omega
  · exact he
  · have := hp j i hj1 hi1 hlt; omega
theorem posD_of {L : List Int} (h : Rise L) {i : Nat} {z : Int} (hi : L[i]? = some z) : posD L z = i := rise_inj h (posD_at (List.mem_of_getElem? hi)) hi
/-- The place of each number in the list of all. -/
def plcD (l : List Int) : List Nat := l.map (posD (lstD l))
theorem plcD_length (l : List Int) : (plcD l).length = l.length := by simp [plcD]
theorem plcD_lt (l : List Int) : ∀ a ∈ plcD l, a < (lstD l).length := by
  intro a h
  obtain ⟨z, hz, rfl⟩ := List.mem_map.1 h
  exact posD_lt ((lstD_mem l z).2 hz)
theorem plcD_all (l : List Int) (i : Nat) (h : i < (lstD l).length) : i ∈ plcD l := by
  have hi : (lstD l)[i]? = some (lstD l)[i] := List.getElem?_eq_getElem h
  exact List.mem_map.2 ⟨_, (lstD_mem l _).1 (List.getElem_mem h), posD_of (lstD_rise l) hi⟩
theorem wd_plcD (l : List Int) : wd (plcD l) = blen ((lstD l).length - 1) := by
  have h1 : wd (plcD l) ≤ blen ((lstD l).length - 1) := by
    rw [wd_le]
    intro a ha
    have hlt := plcD_lt l a ha
    have h2 := (blen_le ((lstD l).length - 1) _).1 (Nat.le_refl _)
    omega
  have h2 : blen ((lstD l).length - 1) ≤ wd (plcD l) := by
    rw [blen_le]
    rcases Nat.eq_zero_or_pos (lstD l).length with h0 | h0
    · rw [h0]; exact Nat.two_pow_pos _
    · exact (wd_le (plcD l) _).1 (Nat.le_refl _) _ (plcD_all l _ (by omega))
  omega
/-! The form. -/
/-- How much each number is above the one ahead, less 1. -/
def gpD (p : Int) : List Int → List Nat
  | [] => []
  | z :: l => (z - p - 1).toNat :: gpD z l
/-- The short numbers of a list behind its count. -/
def htD : List Int → List Nat
  | [] => []
  | z :: l => zg z :: gpD z l
def hnD (L : List Int) : List Nat := L.length :: htD L
/-- Short numbers, one behind the other. -/
def vbs (ns : List Nat) : List Nat := ns.flatMap vb
theorem vbs_append (a b : List Nat) : vbs (a ++ b) = vbs a ++ vbs b := by simp [vbs]
theorem vbs_one (a : Nat) : vbs [a] = vb a := by simp [vbs]
theorem vbs_cons (a : Nat) (l : List Nat) : vbs (a :: l) = vb a ++ vbs l := by simp [vbs]
theorem vbs_step {l : List Nat} {k a : Nat} (h : l[k]? = some a) : vbs (l.take (k + 1)) = vbs (l.take k) ++ vb a := by rw [take_snoc h, vbs_append, vbs_one]
theorem vbs_length (l : List Nat) : (vbs l).length ≤ 10 * l.length := by
  induction l with
  | nil => simp [vbs]
  | cons a l ih =>
    have := vb_length a
    rw [vbs_cons, List.length_append, List.length_cons]; omega
theorem vbs_byte (l : List Nat) (h : ∀ a ∈ l, a < 18446744073709551616) : ∀ b ∈ vbs l, b < 256 := by
  intro b hb
  obtain ⟨a, ha, hb⟩ := List.mem_flatMap.1 hb
  exact vb_byte _ (h a ha) b hb
theorem vbs_pl (ns : List Nat) : vbs ns = pl (ns.map fun v : Nat => zagI (v : Int)) := by
  induction ns with
  | nil => rfl
  | cons a l ih => rw [vbs_cons, List.map_cons, pl_cons, zg_zagI, ih]
theorem gpD_length (L : List Int) : ∀ p, (gpD p L).length = L.length := by
  induction L with
  | nil => intro p; rfl
  | cons z l ih => intro p; simp [gpD, ih]
theorem htD_length (L : List Int) : (htD L).length = L.length := by cases L <;> simp [htD, gpD_length]
theorem gpD_lt (L : List Int) : ∀ p, In64 p → (∀ z ∈ L, In64 z) → ∀ a ∈ gpD p L, a < 18446744073709551616 := by
  induction L with
  | nil => intro p _ _ a h; simp [gpD] at h
  | cons z l ih =>
    intro p hp hl a h
    have hz := hl z (by simp)
    unfold In64 at hp hz
    rcases List.mem_cons.1 h with rfl | h
    · omega
    · exact ih z hz (fun x hx => hl x (by simp [hx])) a h
theorem htD_lt (L : List Int) (h : ∀ z ∈ L, In64 z) : ∀ a ∈ htD L, a < 18446744073709551616 := by
  cases L with
  | nil => intro a ha; simp [htD] at ha
  | cons z l =>
    intro a ha
    rcases List.mem_cons.1 ha with rfl | ha
    · exact (zg_int (h z (by simp))).2
    · exact gpD_lt l z (h z (by simp)) (fun x hx => h x (by simp [hx])) a ha
theorem gpD_at (L : List Int) : ∀ (p : Int) (k : Nat) (y z : Int), (p :: L)[k]? = some y → L[k]? = some z → (gpD p L)[k]? = some (z - y - 1).toNat := by
  induction L with
  | nil => intro p k y z _ h; simp at h
  | cons x l ih =>
    intro p k y z hy hz
    cases k with
    | zero => simp at hy hz; subst hy; subst hz; rfl
    | succ k =>
      simp only [List.getElem?_cons_succ] at hy hz
      simp only [gpD, List.getElem?_cons_succ]
      exact ih x k y z hy hz
theorem htD_zero {L : List Int} {z : Int} (h : L[0]? = some z) : (htD L)[0]? = some (zg z) := by
  cases L with
  | nil => simp at h
  | cons x l => simp at h; subst h; rfl
theorem htD_succ {L : List Int} {k : Nat} {y z : Int} (hy : L[k]? = some y) (hz : L[k + 1]? = some z) : (htD L)[k + 1]? = some (z - y - 1).toNat := by
  cases L with
  | nil => simp at hy
  | cons x l =>
    simp only [List.getElem?_cons_succ] at hz
    show (gpD x l)[k]? = _
    exact gpD_at l x k y z hy hz
/-- How much a number is above the one ahead, less 1, reckoned in 64 bits. -/
theorem gap_eq {y z : Int} (hy : In64 y) (hz : In64 z) (h : y < z) : IntKind.u64.wrap (IntKind.u64.wrap (wrap64 (z - y)) - 1) = ((z - y - 1).toNat : Int) := by
  rw [u64w, u64w]
  unfold wrap64
  unfold In64 at hy hz
  omega
theorem gap_eq2 {y z : Int} (hy : In64 y) (hz : In64 z) (h : y < z) : IntKind.u64.wrap (IntKind.u64.wrap (IntKind.u64.wrap z - IntKind.u64.wrap y) - 1) = ((z - y - 1).toNat : Int) := by
  rw [u64w, u64w, u64w, u64w]
  unfold In64 at hy hz
  omega
/-- The head of the form: the list. -/
def hdD (L : List Int) : List Nat := vbs (hnD L)
theorem hdD_eq (L : List Int) : hdD L = vb L.length ++ vbs (htD L) := vbs_cons _ _
theorem hdD_length (L : List Int) : (hdD L).length ≤ 10 * L.length + 10 := by
  have := vbs_length (hnD L)
  unfold hdD; simp only [hnD, List.length_cons, htD_length] at this ⊢; omega
/-- The form. -/
def dc (l : List Int) : List Nat := hdD (lstD l) ++ [wd (plcD l)] ++ packB (wd (plcD l)) (plcD l)
theorem dc_flat (l : List Int) : dc l = [hdD (lstD l), [wd (plcD l)], packB (wd (plcD l)) (plcD l)].flatten := by simp [dc]
theorem wd_plcD_le (l : List Int) (h : l.length ≤ 65536) : wd (plcD l) ≤ 16 := by
  rw [wd_plcD, blen_le]
  have := lstD_length l
  omega
theorem dc_parts (l : List Int) (h : l.length ≤ 65536) : (hdD (lstD l)).length ≤ 655370 ∧ (packB (wd (plcD l)) (plcD l)).length ≤ 131073 := by
  have h1 := lstD_length l
  have h2 := hdD_length (lstD l)
  refine ⟨by omega, ?_⟩
  rw [packB_length, plcD_length]
  have h3 := wd_plcD_le l h
  have h4 : l.length * wd (plcD l) ≤ 65536 * 16 := Nat.mul_le_mul h h3
  unfold sz; omega
theorem dc_length (l : List Int) (h : l.length ≤ 65536) : (dc l).length ≤ 786444 := by
  obtain ⟨h1, h2⟩ := dc_parts l h
  unfold dc; rw [List.length_append, List.length_append, List.length_singleton]; omega
theorem dc_byte (l : List Int) (hn : l.length ≤ 65536) (h : ∀ z ∈ l, In64 z) : ∀ b ∈ dc l, b < 256 := by
  intro b hb
  have hw := wd_plcD_le l hn
  have hl := lstD_length l
  unfold dc at hb
  rcases List.mem_append.1 hb with hb | hb
  · rcases List.mem_append.1 hb with hb | hb
    · refine vbs_byte (hnD (lstD l)) (fun a ha => ?_) b hb
      rcases List.mem_cons.1 ha with rfl | ha
      · omega
      · exact htD_lt _ (lstD_in h) a ha
    · simp at hb; omega
  · exact packB_byte _ _ b hb
end Go.Proofs.YtmjpjllbfgkfbaaDoor

/- Plain facts on the form by the least one: the least of numbers, the differences to it, the form. No program, no condition. -/
namespace Go.Proofs.YtmjpjllbfgkfbaaDoor
open Go.RowKit
set_option linter.unusedVariables false
set_option linter.unusedSimpArgs false
set_option maxRecDepth 100000

/-- The least of numbers, of which one is 'm'. -/
def lsI (m : Int) (l : List Int) : Int := l.foldl (fun a z => min a z) m
/-- The least one (0 of none). -/
def ls : List Int → Int
  | [] => 0
  | z :: l => lsI z l
theorem lsI_le (l : List Int) : ∀ m, lsI m l ≤ m ∧ ∀ z ∈ l, lsI m l ≤ z := by
  induction l with
  | nil => intro m; simp [lsI]
  | cons y l ih =>
    intro m
    obtain ⟨h1, h2⟩ := ih (min m y)
    have e : lsI m (y :: l) = lsI (min m y) l := rfl
    rw [e]
    refine ⟨by omega, fun z hz => ?_⟩
    rcases List.mem_cons.1 hz with rfl | hz
    · omega
    · exact h2 z hz
theorem lsI_mem (l : List Int) : ∀ m, lsI m l = m ∨ lsI m l ∈ l := by
  induction l with
  | nil => intro m; exact .inl rfl
  | cons y l ih =>
    intro m
    have e : lsI m (y :: l) = lsI (min m y) l := rfl
    rw [e]
    rcases ih (min m y) with h | h
    · rw [h]
      by_cases hm : m ≤ y
      · exact .inl (by omega)
      · exact .inr (by rw [show min m y = y by omega]; simp)
    · exact .inr (List.mem_cons_of_mem _ h)
theorem lsI_snoc (m z : Int) (l : List Int) : lsI m (l ++ [z]) = min (lsI m l) z := by simp [lsI]
theorem ls_step {l : List Int} {k : Nat} {z : Int} (hk : 0 < k) (h : l[k]? = some z) : ls (l.take (k + 1)) = min (ls (l.take k)) z := by
  have hl := (List.getElem?_eq_some_iff.1 h).1
  rw [List.take_add_one, h]
  obtain ⟨y, r, hr⟩ : ∃ y r, l.take k = y :: r := by
    cases hr : l.take k with
    | nil => have h2 := congrArg List.length hr; rw [List.length_take] at h2; simp only [List.length_nil] at h2; omega
    | cons y r => exact ⟨y, r, rfl⟩
  rw [hr]
  show lsI y (r ++ [z]) = min (lsI y r) z
  exact lsI_snoc y z r
theorem ls_first {l : List Int} {z : Int} (h : l[0]? = some z) : ls (l.take 1) = z := by
  cases l with
  | nil => simp at h
  | cons y r => simp at h; subst h; rfl
/-- The least one of the first and of so many. -/
def lsF (z : Int) (l : List Int) (k : Nat) : Int := lsI z (l.take k)
theorem lsF_step {z x : Int} {l : List Int} {k : Nat} (h : l[k]? = some x) : lsF z l (k + 1) = min (lsF z l k) x := by
  unfold lsF
  rw [List.take_add_one, h]
  exact lsI_snoc _ _ _
theorem lsF_all {z : Int} {l : List Int} (h : l[0]? = some z) : lsF z l l.length = ls l := by
  unfold lsF
  rw [List.take_length]
  cases l with
  | nil => simp at h
  | cons y r =>
    simp at h
    subst h
    show lsI (min y y) r = lsI y r
    rw [Int.min_self]
theorem ls_le {l : List Int} : ∀ z ∈ l, ls l ≤ z := by
  cases l with
  | nil => intro z h; simp at h
  | cons y l =>
    intro z hz
    obtain ⟨h1, h2⟩ := lsI_le l y
    rcases List.mem_cons.1 hz with rfl | hz
    · exact h1
    · exact h2 z hz
theorem ls_mem {l : List Int} (h : l ≠ []) : ls l ∈ l := by
  cases l with
  | nil => exact absurd rfl h
  | cons y l =>
    rcases lsI_mem l y with h1 | h1
    · show lsI y l ∈ y :: l
      rw [h1]; simp
    · exact List.mem_cons_of_mem _ h1
theorem ls_eq {l : List Int} {m : Int} (h : m ∈ l) (hl : ∀ z ∈ l, m ≤ z) : ls l = m := by
  have h1 := ls_le m h
  have h2 := hl (ls l) (ls_mem (by intro e; subst e; simp at h))
  omega
theorem ls_in {l : List Int} (h : ∀ z ∈ l, In64 z) : In64 (ls l) := by
  by_cases he : l = []
  · subst he; simp [ls, In64]
  · exact h _ (ls_mem he)
/-- The differences to 'm'. -/
def dfs (m : Int) (l : List Int) : List Nat := l.map fun z => (z - m).toNat
theorem dfs_length (m : Int) (l : List Int) : (dfs m l).length = l.length := by simp [dfs]
theorem dfs_lt {l : List Int} {m : Int} (h : ∀ z ∈ l, In64 z) (hm : In64 m) : ∀ a ∈ dfs m l, a < 18446744073709551616 := by
  intro a ha
  obtain ⟨z, hz, rfl⟩ := List.mem_map.1 ha
  have := h z hz
  unfold In64 at this hm
  omega
theorem dfs_at {l : List Int} {m z : Int} {k : Nat} (h : l[k]? = some z) : (dfs m l)[k]? = some (z - m).toNat := by unfold dfs; rw [List.getElem?_map, h]; rfl
theorem dfs_step {l : List Int} {m z : Int} {k : Nat} (h : l[k]? = some z) : (dfs m l).take (k + 1) = (dfs m l).take k ++ [(z - m).toNat] := take_snoc (dfs_at h)
theorem dfs_zero {l : List Int} (h : l ≠ []) : 0 ∈ dfs (ls l) l := List.mem_map.2 ⟨ls l, ls_mem h, by omega⟩
/-- What is so much above 'm'. -/
def ups (m : Int) (d : List Nat) : List Int := d.map fun a : Nat => m + (a : Int)
theorem ups_length (m : Int) (d : List Nat) : (ups m d).length = d.length := by simp [ups]
theorem ups_dfs {l : List Int} {m : Int} (h : ∀ z ∈ l, m ≤ z) : ups m (dfs m l) = l := by
  unfold ups dfs
  rw [List.map_map]
  conv => rhs; rw [← List.map_id l]
  refine List.map_congr_left fun z hz => ?_
  have := h z hz
  show m + ((z - m).toNat : Int) = z
  omega
theorem dfs_ups (m : Int) (d : List Nat) : dfs m (ups m d) = d := by
  unfold ups dfs
  rw [List.map_map]
  conv => rhs; rw [← List.map_id d]
  refine List.map_congr_left fun a _ => ?_
  show (m + (a : Int) - m).toNat = a
  omega
theorem ls_ups {m : Int} {d : List Nat} (h : 0 ∈ d) : ls (ups m d) = m := by
  refine ls_eq (List.mem_map.2 ⟨0, h, by omega⟩) fun z hz => ?_
  obtain ⟨a, _, rfl⟩ := List.mem_map.1 hz
  omega
theorem dfs_shift (m by_ : Int) (l : List Int) : dfs (m + by_) (l.map fun z => z + by_) = dfs m l := by
  unfold dfs
  rw [List.map_map]
  refine List.map_congr_left fun z _ => ?_
  show (z + by_ - (m + by_)).toNat = (z - m).toNat
  congr 1; omega
theorem lsI_shift (by_ : Int) (l : List Int) : ∀ m, lsI (m + by_) (l.map fun z => z + by_) = lsI m l + by_ := by
  induction l with
  | nil => intro m; rfl
  | cons y l ih =>
    intro m
    show lsI (min (m + by_) (y + by_)) (l.map fun z => z + by_) = lsI (min m y) l + by_
    rw [show min (m + by_) (y + by_) = min m y + by_ by omega, ih]
theorem ls_shift (by_ : Int) {l : List Int} (h : l ≠ []) : ls (l.map fun z => z + by_) = ls l + by_ := by
  cases l with
  | nil => exact absurd rfl h
  | cons y l => exact lsI_shift by_ l y
/-- Behind the least one: the width, and the differences packed. -/
def foB (l : List Int) : List Nat := [wd (dfs (ls l) l)] ++ packB (wd (dfs (ls l) l)) (dfs (ls l) l)
/-- The form. -/
def fo (l : List Int) : List Nat := if l = [] then [] else vb (zg (ls l)) ++ foB l
theorem fo_nil : fo [] = [] := rfl
theorem fo_ne {l : List Int} (h : l ≠ []) : fo l = vb (zg (ls l)) ++ foB l := by unfold fo; rw [if_neg h]
theorem foB_shift (by_ : Int) {l : List Int} (h : l ≠ []) : foB (l.map fun z => z + by_) = foB l := by
  unfold foB
  rw [ls_shift by_ h, dfs_shift]
theorem wd_dfs {l : List Int} (h : ∀ z ∈ l, In64 z) : wd (dfs (ls l) l) ≤ 64 := (wd_le _ 64).2 (by intro a ha; have := dfs_lt h (ls_in h) a ha; omega)
theorem foB_length {l : List Int} (h : ∀ z ∈ l, In64 z) (hn : l.length ≤ 65536) : (foB l).length ≤ 524290 := by
  unfold foB
  rw [List.length_append, packB_length, dfs_length]
  have h1 := wd_dfs h
  have h2 : l.length * wd (dfs (ls l) l) ≤ 65536 * 64 := Nat.mul_le_mul hn h1
  simp only [List.length_singleton]
  unfold sz; omega
theorem fo_length {l : List Int} (h : ∀ z ∈ l, In64 z) (hn : l.length ≤ 65536) : (fo l).length ≤ 524300 := by
  unfold fo
  split
  · simp
  · have h1 := foB_length h hn
    have h2 := (vb_length (zg (ls l))).2
    rw [List.length_append]; omega
theorem fo_byte {l : List Int} (h : ∀ z ∈ l, In64 z) : ∀ b ∈ fo l, b < 256 := by
  intro b hb
  unfold fo at hb
  split at hb
  · simp at hb
  · rcases List.mem_append.1 hb with hb | hb
    · exact vb_byte _ (zg_int (ls_in h)).2 b hb
    · unfold foB at hb
      have := wd_dfs h
      rcases List.mem_append.1 hb with hb | hb
      · simp at hb; omega
      · exact packB_byte _ _ b hb
end Go.Proofs.YtmjpjllbfgkfbaaDoor

/- Plain facts on texts, byte by byte: the model's order is one. No program. -/
namespace Go.Proofs.YtmjpjllbfgkfbaaDoor
open Go.RowKit
set_option linter.unusedVariables false
set_option linter.unusedSimpArgs false

/-- A text: its bytes. -/
abbrev Tx := List UInt8
/-- It stands ahead. -/
def tlt (a b : Tx) : Prop := Op.bytesLess a b = true
instance (a b : Tx) : Decidable (tlt a b) := inferInstanceAs (Decidable (_ = true))
theorem u8_lt_irrefl (a : UInt8) : ¬ a < a := by rw [UInt8.lt_iff_toNat_lt]; omega
theorem u8_lt_trans {a b c : UInt8} (h1 : a < b) (h2 : b < c) : a < c := by rw [UInt8.lt_iff_toNat_lt] at *; omega
theorem u8_total {a b : UInt8} (h1 : ¬ a < b) (h2 : ¬ a = b) : b < a := by
  rw [UInt8.lt_iff_toNat_lt] at *
  have : a.toNat ≠ b.toNat := fun e => h2 (UInt8.toNat_inj.1 e)
  omega
theorem tlt_nil (b : Tx) : tlt [] b ↔ b ≠ [] := by
  cases b <;> simp [tlt, Op.bytesLess]
theorem not_tlt_nil (a : Tx) : ¬ tlt a [] := by
  cases a <;> simp [tlt, Op.bytesLess]
theorem tlt_cons (a b : UInt8) (x y : Tx) : tlt (a :: x) (b :: y) ↔ a < b ∨ a = b ∧ tlt x y := by
  unfold tlt
  rw [Op.bytesLess]
  simp
theorem tlt_irrefl : ∀ a : Tx, ¬ tlt a a := by
  intro a
  induction a with
  | nil => exact not_tlt_nil []
  | cons x a ih =>
    rw [tlt_cons]
    rintro (h | ⟨_, h⟩)
    · exact u8_lt_irrefl x h
    · exact ih h
theorem tlt_trans : ∀ {a b c : Tx}, tlt a b → tlt b c → tlt a c := by
  intro a
  induction a with
  | nil =>
    intro b c h1 h2
    rw [tlt_nil]
    intro e
    subst e
    exact not_tlt_nil b h2
  | cons x a ih =>
    intro b c h1 h2
    cases b with
    | nil => exact absurd h1 (not_tlt_nil _)
    | cons y b =>
      cases c with
      | nil => exact absurd h2 (not_tlt_nil _)
      | cons z c =>
        rw [tlt_cons] at *
        rcases h1 with h1 | ⟨h1, h1'⟩
        · rcases h2 with h2 | ⟨h2, h2'⟩
          · exact .inl (u8_lt_trans h1 h2)
          · subst h2; exact .inl h1
        · subst h1
          rcases h2 with h2 | ⟨h2, h2'⟩
          · exact .inl h2
          · exact .inr ⟨h2, ih h1' h2'⟩
theorem tlt_total : ∀ {a b : Tx}, ¬ tlt a b → ¬ a = b → tlt b a := by
  intro a
  induction a with
  | nil =>
    intro b h1 h2
    rw [tlt_nil] at h1
    exact absurd (Classical.not_not.1 h1).symm h2
  | cons x a ih =>
    intro b h1 h2
    cases b with
    | nil => rw [tlt_nil]; simp
    | cons y b =>
      rw [tlt_cons] at *
      by_cases hxy : x = y
      · subst hxy
        refine .inr ⟨rfl, ih (fun h => h1 (.inr ⟨rfl, h⟩)) (fun e => h2 (by rw [e]))⟩
      · exact .inl (u8_total (fun h => h1 (.inl h)) hxy)
theorem tlt_asymm {a b : Tx} (h : tlt a b) : ¬ tlt b a := fun h2 => tlt_irrefl a (tlt_trans h h2)
theorem tlt_ne {a b : Tx} (h : tlt a b) : a ≠ b := fun e => tlt_irrefl a (by rw [e] at h ⊢; exact h)
end Go.Proofs.YtmjpjllbfgkfbaaDoor

/- Plain facts on lists of all texts that are there: rising, each once; the places in them; the form of texts. No program, no condition. -/
namespace Go.Proofs.YtmjpjllbfgkfbaaDoor
open Go.RowKit
set_option linter.unusedVariables false
set_option linter.unusedSimpArgs false
set_option maxRecDepth 100000

/-- It rises, each text once. -/
def RiseT (L : List Tx) : Prop := L.Pairwise tlt
/-- Where a text stands in what rises, or would. -/
def whT : List Tx → Tx → Nat
  | [], _ => 0
  | y :: l, s => if tlt y s then whT l s + 1 else 0
theorem whT_le (L : List Tx) (s : Tx) : whT L s ≤ L.length := by
  induction L with
  | nil => simp [whT]
  | cons y l ih => simp only [whT]; split <;> simp only [List.length_cons] <;> omega
theorem whT_below (L : List Tx) (s : Tx) : ∀ (j : Nat) (y : Tx), j < whT L s → L[j]? = some y → tlt y s := by
  induction L with
  | nil => intro j y h; simp [whT] at h
  | cons x l ih =>
    intro j y h hy
    simp only [whT] at h
    split at h
    · rename_i hx
      cases j with
      | zero => simp at hy; subst hy; exact hx
      | succ j => simp at hy; exact ih j y (by omega) hy
    · omega
theorem whT_at (L : List Tx) (s : Tx) {y : Tx} (h : L[whT L s]? = some y) : ¬ tlt y s := by
  induction L with
  | nil => simp at h
  | cons x l ih =>
    simp only [whT] at h
    split at h
    · rename_i hx; simp at h; exact ih h
    · rename_i hx; simp at h; subst h; exact hx
/-- The place is told by what stands below it and at it. -/
theorem whT_of {L : List Tx} {s : Tx} {k : Nat} (hk : k ≤ L.length) (h1 : ∀ (j : Nat) (y : Tx), j < k → L[j]? = some y → tlt y s) (h2 : ∀ y, L[k]? = some y → ¬ tlt y s) : whT L s = k := by
  rcases Nat.lt_trichotomy (whT L s) k with h | h | h
  · have hl : whT L s < L.length := by omega
    have hy : L[whT L s]? = some L[whT L s] := List.getElem?_eq_getElem hl
    exact absurd (h1 _ _ h hy) (whT_at L s hy)
  · exact h
  · have hl : k < L.length := by have := whT_le L s; omega
    have hy : L[k]? = some L[k] := List.getElem?_eq_getElem hl
    exact absurd (whT_below L s k _ h hy) (h2 _ hy)
/-- A text, put in its place in what rises. -/
def insT (z : Tx) : List Tx → List Tx
  | [] => [z]
  | y :: l => if tlt y z then y :: insT z l else if y = z then y :: l else z :: y :: l
theorem whT_more {y : Tx} {l : List Tx} {z : Tx} (h : tlt y z) : whT (y :: l) z = whT l z + 1 := by simp [whT, h]
theorem whT_here {y : Tx} {l : List Tx} {z : Tx} (h : ¬ tlt y z) : whT (y :: l) z = 0 := by simp [whT, h]
theorem insT_old {z : Tx} : ∀ {L : List Tx}, L[whT L z]? = some z → insT z L = L := by
  intro L
  induction L with
  | nil => intro h; simp at h
  | cons y l ih =>
    intro h
    by_cases hy : tlt y z
    · rw [whT_more hy, List.getElem?_cons_succ] at h
      simp only [insT]
      rw [if_pos hy, ih h]
    · rw [whT_here hy] at h
      simp at h
      simp only [insT]
      rw [if_neg hy, if_pos h]
theorem insT_new {z : Tx} : ∀ {L : List Tx}, L[whT L z]? ≠ some z → insT z L = L.take (whT L z) ++ z :: L.drop (whT L z) := by
  intro L
  induction L with
  | nil => intro h; simp [insT]
  | cons y l ih =>
    intro h
    by_cases hy : tlt y z
    · rw [whT_more hy, List.getElem?_cons_succ] at h
      rw [whT_more hy]
      simp only [insT]
      rw [if_pos hy, ih h]
      simp
    · rw [whT_here hy] at h ⊢
      simp at h
      simp only [insT]
      rw [if_neg hy, if_neg h]
      simp
/-- The list of all texts that are there. -/
def lstT (l : List Tx) : List Tx := l.foldl (fun o z => insT z o) []
theorem insT_mem (z x : Tx) (L : List Tx) : x ∈ insT z L ↔ x = z ∨ x ∈ L := by
  induction L with
  | nil => simp [insT]
  | cons y L ih =>
    simp only [insT]
    split
    · rw [List.mem_cons, ih, List.mem_cons]
      constructor
      · rintro (h | h | h) <;> simp [h]
      · rintro (h | h | h) <;> simp [h]
    · split
      · rename_i h1 h2
        subst h2
        rw [List.mem_cons]
        constructor
        · rintro (h | h) <;> simp [h]
        · rintro (h | h | h) <;> simp [h]
      · rw [List.mem_cons]
theorem insT_rise (z : Tx) (L : List Tx) (h : RiseT L) : RiseT (insT z L) := by
  induction L with
  | nil => simp [insT, RiseT]
  | cons y L ih =>
    obtain ⟨h1, h2⟩ := List.pairwise_cons.1 h
    simp only [insT]
    split
    · rename_i hy
      refine List.pairwise_cons.2 ⟨fun x hx => ?_, ih h2⟩
      rcases (insT_mem z x L).1 hx with rfl | hx
      · exact hy
      · exact h1 x hx
    · split
      · exact h
      · rename_i hy hyz
        have hzy := tlt_total hy hyz
        refine List.pairwise_cons.2 ⟨fun x hx => ?_, h⟩
        rcases List.mem_cons.1 hx with rfl | hx
        · exact hzy
        · exact tlt_trans hzy (h1 x hx)
theorem foldT_mem (l : List Tx) : ∀ (o : List Tx) (x : Tx), x ∈ l.foldl (fun o z => insT z o) o ↔ x ∈ l ∨ x ∈ o := by
  induction l with
  | nil => intro o x; simp
  | cons z l ih =>
    intro o x
    rw [List.foldl_cons, ih, insT_mem, List.mem_cons]
    constructor
    · rintro (h | h | h) <;> simp [h]
    · rintro ((h | h) | h) <;> simp [h]
theorem foldT_rise (l : List Tx) : ∀ o, RiseT o → RiseT (l.foldl (fun o z => insT z o) o) := by
  induction l with
  | nil => intro o h; exact h
  | cons z l ih => intro o h; exact ih _ (insT_rise z o h)
theorem lstT_mem (l : List Tx) (x : Tx) : x ∈ lstT l ↔ x ∈ l := by unfold lstT; rw [foldT_mem]; simp
theorem lstT_rise (l : List Tx) : RiseT (lstT l) := foldT_rise l [] List.Pairwise.nil
theorem riseT_ext : ∀ (a b : List Tx), RiseT a → RiseT b → (∀ x, x ∈ a ↔ x ∈ b) → a = b := by
  intro a
  induction a with
  | nil =>
    intro b _ _ h
    cases b with
    | nil => rfl
    | cons y b => have := (h y).2 (by simp); simp at this
  | cons x a ih =>
    intro b ha hb h
    cases b with
    | nil => have := (h x).1 (by simp); simp at this
    | cons y b =>
      obtain ⟨a1, a2⟩ := List.pairwise_cons.1 ha
      obtain ⟨b1, b2⟩ := List.pairwise_cons.1 hb
      have exy : x = y := by
        have h1 := (h x).1 (by simp)
        have h2 := (h y).2 (by simp)
        rcases List.mem_cons.1 h1 with h1 | h1
        · exact h1
        · rcases List.mem_cons.1 h2 with h2 | h2
          · exact h2.symm
          · exact absurd (b1 x h1) (tlt_asymm (a1 y h2))
      subst exy
      congr 1
      refine ih b a2 b2 fun z => ?_
      constructor
      · intro hz
        rcases List.mem_cons.1 ((h z).1 (List.mem_cons_of_mem _ hz)) with rfl | h1
        · exact absurd (a1 z hz) (tlt_irrefl z)
        · exact h1
      · intro hz
        rcases List.mem_cons.1 ((h z).2 (List.mem_cons_of_mem _ hz)) with rfl | h1
        · exact absurd (b1 z hz) (tlt_irrefl z)
        · exact h1
theorem insT_length (z : Tx) (L : List Tx) : (insT z L).length ≤ L.length + 1 := by
  induction L with
  | nil => simp [insT]
  | cons y L ih =>
    simp only [insT]
    split
    · simp only [List.length_cons]; omega
    · split <;> simp
theorem foldT_length (l : List Tx) : ∀ o : List Tx, (l.foldl (fun o z => insT z o) o).length ≤ o.length + l.length := by
  induction l with
  | nil => intro o; simp
  | cons z l ih =>
    intro o
    have h1 := ih (insT z o)
    have h2 := insT_length z o
    rw [List.foldl_cons, List.length_cons]; omega
theorem lstT_length (l : List Tx) : (lstT l).length ≤ l.length := by have := foldT_length l []; simp at this; exact this
theorem lstT_same {l m : List Tx} (h : ∀ x, x ∈ l ↔ x ∈ m) : lstT l = lstT m := riseT_ext _ _ (lstT_rise l) (lstT_rise m) fun x => by rw [lstT_mem, lstT_mem, h]
theorem lstT_of_rise {L : List Tx} (h : RiseT L) : lstT L = L := riseT_ext _ _ (lstT_rise L) h fun x => lstT_mem L x
theorem lstT_nil : lstT [] = [] := rfl
theorem lstT_snoc (l : List Tx) (z : Tx) : lstT (l ++ [z]) = insT z (lstT l) := by simp [lstT]
/-! Places. -/
theorem riseT_inj {L : List Tx} (h : RiseT L) {i j : Nat} {z : Tx} (hi : L[i]? = some z) (hj : L[j]? = some z) : i = j := by
  obtain ⟨hi1, hi2⟩ := List.getElem?_eq_some_iff.1 hi
  obtain ⟨hj1, hj2⟩ := List.getElem?_eq_some_iff.1 hj
  have hp := List.pairwise_iff_getElem.1 h
  rcases Nat.lt_trichotomy i j with hlt | he | hlt
  · have := hp i j hi1 hj1 hlt; rw [hi2, hj2] at this; exact absurd this (tlt_irrefl z)
  · exact he
  · have := hp j i hj1 hi1 hlt; rw [hi2, hj2] at this; exact absurd this (tlt_irrefl z)
theorem whT_is {L : List Tx} (h : RiseT L) {i : Nat} {z : Tx} (hi : L[i]? = some z) : whT L z = i := by
  obtain ⟨hi1, hi2⟩ := List.getElem?_eq_some_iff.1 hi
  refine whT_of (by omega) (fun j y hj hy => ?_) (fun y hy => ?_)
  · obtain ⟨hj1, hj2⟩ := List.getElem?_eq_some_iff.1 hy
    have := List.pairwise_iff_getElem.1 h j i hj1 hi1 hj
    rwa [hi2, hj2] at this
  · rw [hi] at hy; injection hy with hy; subst hy; exact tlt_irrefl _
theorem whT_mem {L : List Tx} (h : RiseT L) {z : Tx} (hz : z ∈ L) : L[whT L z]? = some z ∧ whT L z < L.length := by
  obtain ⟨i, hi⟩ := List.getElem?_of_mem hz
  rw [whT_is h hi]
  exact ⟨hi, (List.getElem?_eq_some_iff.1 hi).1⟩
theorem whT_found (L : List Tx) (z : Tx) (h : RiseT L) : L[whT L z]? = some z ↔ z ∈ L := ⟨fun h => List.mem_of_getElem? h, fun hz => (whT_mem h hz).1⟩
/-- The place of each text in the list of all. -/
def plcT (l : List Tx) : List Nat := l.map (whT (lstT l))
theorem plcT_length (l : List Tx) : (plcT l).length = l.length := by simp [plcT]
theorem plcT_lt (l : List Tx) : ∀ a ∈ plcT l, a < (lstT l).length := by
  intro a h
  obtain ⟨z, hz, rfl⟩ := List.mem_map.1 h
  exact (whT_mem (lstT_rise l) ((lstT_mem l z).2 hz)).2
theorem plcT_all (l : List Tx) (i : Nat) (h : i < (lstT l).length) : i ∈ plcT l := by
  have hi : (lstT l)[i]? = some (lstT l)[i] := List.getElem?_eq_getElem h
  exact List.mem_map.2 ⟨_, (lstT_mem l _).1 (List.getElem_mem h), whT_is (lstT_rise l) hi⟩
theorem wd_plcT (l : List Tx) : wd (plcT l) = blen ((lstT l).length - 1) := by
  have h1 : wd (plcT l) ≤ blen ((lstT l).length - 1) := by
    rw [wd_le]
    intro a ha
    have hlt := plcT_lt l a ha
    have h2 := (blen_le ((lstT l).length - 1) _).1 (Nat.le_refl _)
    omega
  have h2 : blen ((lstT l).length - 1) ≤ wd (plcT l) := by
    rw [blen_le]
    rcases Nat.eq_zero_or_pos (lstT l).length with h0 | h0
    · rw [h0]; exact Nat.two_pow_pos _
    · exact (wd_le (plcT l) _).1 (Nat.le_refl _) _ (plcT_all l _ (by omega))
  omega
/-! The form. -/
/-- A text's bytes as numbers. -/
def nb (s : Tx) : List Nat := s.map UInt8.toNat
theorem nb_length (s : Tx) : (nb s).length = s.length := by simp [nb]
theorem nb_byte (s : Tx) : ∀ b ∈ nb s, b < 256 := by
  intro b h
  obtain ⟨x, _, rfl⟩ := List.mem_map.1 h
  exact x.toNat_lt
theorem nb_inj {s t : Tx} (h : nb s = nb t) : s = t := by
  have h2 := congrArg (List.map UInt8.ofNat) h
  unfold nb at h2
  rw [List.map_map, List.map_map] at h2
  have e : (UInt8.ofNat ∘ UInt8.toNat) = id := by funext x; simp
  rw [e, List.map_id, List.map_id] at h2
  exact h2
/-- The text of these bytes. -/
def tb (l : List Nat) : Tx := l.map UInt8.ofNat
theorem tb_nb (s : Tx) : tb (nb s) = s := by
  unfold tb nb
  rw [List.map_map]
  have e : (UInt8.ofNat ∘ UInt8.toNat) = id := by funext x; simp
  rw [e, List.map_id]
theorem nb_tb {l : List Nat} (h : ∀ b ∈ l, b < 256) : nb (tb l) = l := by
  unfold tb nb
  rw [List.map_map]
  conv => rhs; rw [← List.map_id l]
  exact List.map_congr_left fun b hb => UInt8.toNat_ofNat_of_lt' (h b hb)
/-- A text behind its length. -/
def blbT (s : Tx) : List Nat := vb s.length ++ nb s
/-- Texts, each behind its length, one behind the other. -/
def blbs (L : List Tx) : List Nat := L.flatMap blbT
theorem blbs_append (a b : List Tx) : blbs (a ++ b) = blbs a ++ blbs b := by simp [blbs]
theorem blbs_one (a : Tx) : blbs [a] = blbT a := by simp [blbs]
theorem blbs_cons (a : Tx) (l : List Tx) : blbs (a :: l) = blbT a ++ blbs l := by simp [blbs]
theorem blbs_step {l : List Tx} {k : Nat} {a : Tx} (h : l[k]? = some a) : blbs (l.take (k + 1)) = blbs (l.take k) ++ blbT a := by rw [take_snoc h, blbs_append, blbs_one]
theorem blbT_length {s : Tx} : (blbT s).length ≤ s.length + 10 := by
  have := (vb_length s.length).2
  unfold blbT; rw [List.length_append, nb_length]; omega
theorem blbs_length (L : List Tx) (q : Nat) (h : ∀ s ∈ L, s.length ≤ q) : (blbs L).length ≤ (q + 10) * L.length := by
  induction L with
  | nil => simp [blbs]
  | cons a l ih =>
    have h1 := h a (by simp)
    have h2 := ih (fun s hs => h s (by simp [hs]))
    have h3 := blbT_length (s := a)
    rw [blbs_cons, List.length_append, List.length_cons, Nat.mul_add, Nat.mul_one]
    omega
theorem blbT_byte {s : Tx} (h : s.length < 18446744073709551616) : ∀ b ∈ blbT s, b < 256 := by
  intro b hb
  rcases List.mem_append.1 hb with hb | hb
  · exact vb_byte _ h b hb
  · exact nb_byte s b hb
theorem blbs_byte (L : List Tx) (h : ∀ s ∈ L, s.length < 18446744073709551616) : ∀ b ∈ blbs L, b < 256 := by
  intro b hb
  obtain ⟨a, ha, hb⟩ := List.mem_flatMap.1 hb
  exact blbT_byte (h a ha) b hb
/-- The head of the form: the list. -/
def hdT (L : List Tx) : List Nat := vb L.length ++ blbs L
/-- The form. -/
def txf (l : List Tx) : List Nat := hdT (lstT l) ++ [wd (plcT l)] ++ packB (wd (plcT l)) (plcT l)
theorem txf_flat (l : List Tx) : txf l = [hdT (lstT l), [wd (plcT l)], packB (wd (plcT l)) (plcT l)].flatten := by simp [txf]
theorem wd_plcT_le (l : List Tx) (h : l.length ≤ 65536) : wd (plcT l) ≤ 16 := by
  rw [wd_plcT, blen_le]
  have := lstT_length l
  omega
theorem lstT_long {l : List Tx} {q : Nat} (h : ∀ s ∈ l, s.length ≤ q) : ∀ s ∈ lstT l, s.length ≤ q := fun s hs => h s ((lstT_mem l s).1 hs)
theorem txf_parts (l : List Tx) (h : l.length ≤ 65536) (hq : ∀ s ∈ l, s.length ≤ 65536) : (hdT (lstT l)).length ≤ 4295622666 ∧ (packB (wd (plcT l)) (plcT l)).length ≤ 131073 := by
  have h1 := lstT_length l
  have h2 := blbs_length (lstT l) 65536 (lstT_long hq)
  have h0 := (vb_length (lstT l).length).2
  refine ⟨?_, ?_⟩
  · unfold hdT
    rw [List.length_append]
    have : (65536 + 10) * (lstT l).length ≤ (65536 + 10) * 65536 := Nat.mul_le_mul_left _ (by omega)
    omega
  · rw [packB_length, plcT_length]
    have h3 := wd_plcT_le l h
    have h4 : l.length * wd (plcT l) ≤ 65536 * 16 := Nat.mul_le_mul h h3
    unfold sz; omega
theorem txf_length (l : List Tx) (h : l.length ≤ 65536) (hq : ∀ s ∈ l, s.length ≤ 65536) : (txf l).length ≤ 4295753740 := by
  obtain ⟨h1, h2⟩ := txf_parts l h hq
  unfold txf; rw [List.length_append, List.length_append, List.length_singleton]; omega
theorem txf_byte (l : List Tx) (h : l.length ≤ 65536) (hq : ∀ s ∈ l, s.length ≤ 65536) : ∀ b ∈ txf l, b < 256 := by
  intro b hb
  have hw := wd_plcT_le l h
  have hl := lstT_length l
  unfold txf at hb
  rcases List.mem_append.1 hb with hb | hb
  · rcases List.mem_append.1 hb with hb | hb
    · unfold hdT at hb
      rcases List.mem_append.1 hb with hb | hb
      · exact vb_byte _ (by omega) b hb
      · exact blbs_byte _ (fun s hs => by have := lstT_long hq s hs; omega) b hb
    · simp at hb; omega
  · exact packB_byte _ _ b hb
end Go.Proofs.YtmjpjllbfgkfbaaDoor

/- A column's values and their chunk, told as plain bytes: why values can't be one's, which are nothing, the numbers and the texts of the others, the chunk in a way, the best way. No program; no condition. -/
namespace Go.Proofs.YtmjpjllbfgkfbaaDoor
open Go.RowKit
set_option linter.unusedVariables false
set_option linter.unusedSimpArgs false

/-- A value: its kind (0 nothing, 1 a number, 2 a text), its number, its text. -/
abbrev Vl := Int × Int × Tx
/-- May it stand in a column of a kind? -/
def rgt (kd : Int) (v : Vl) : Bool :=
  if v.1 = 0 then decide (v.2.1 = 0 ∧ v.2.2 = []) else decide (v.1 = kd ∧ (kd = 1 ∧ v.2.2 = [] ∨ kd = 2 ∧ v.2.1 = 0))
/-- Why values can't be a chunk's: an error's number. -/
def ckE (kd : Int) (l : List Vl) : Int :=
  if 65536 < l.length then 12 else if ∃ v ∈ l, 65536 < v.2.2.length then 12 else if ∃ v ∈ l, rgt kd v = false then 11 else 0
theorem ckE_ok {kd : Int} {l : List Vl} (h : ckE kd l = 0) : l.length ≤ 65536 ∧ (∀ v ∈ l, v.2.2.length ≤ 65536) ∧ ∀ v ∈ l, rgt kd v = true := by
  unfold ckE at h
  split at h
  · cases h
  split at h
  · cases h
  split at h
  · cases h
  rename_i h1 h2 h3
  refine ⟨by omega, fun v hv => ?_, fun v hv => ?_⟩
  · exact Nat.le_of_not_lt fun e => h2 ⟨v, hv, e⟩
  · cases e : rgt kd v with
    | true => rfl
    | false => exact absurd ⟨v, hv, e⟩ h3
theorem ckE_of {kd : Int} {l : List Vl} (h1 : l.length ≤ 65536) (h2 : ∀ v ∈ l, v.2.2.length ≤ 65536) (h3 : ∀ v ∈ l, rgt kd v = true) : ckE kd l = 0 := by
  unfold ckE
  rw [if_neg (by omega), if_neg, if_neg]
  · rintro ⟨v, hv, e⟩; rw [h3 v hv] at e; cases e
  · rintro ⟨v, hv, e⟩; have := h2 v hv; omega
/-- Is the value nothing? -/
def nul (v : Vl) : Bool := decide (v.1 = 0)
/-- Is the value at the place nothing? -/
def non (l : List Vl) (i : Nat) : Bool := ((l.map nul)[i]?).getD false
def ints (l : List Vl) : List Int := l.filterMap fun v => if v.1 = 1 then some v.2.1 else none
def wrds (l : List Vl) : List Tx := l.filterMap fun v => if v.1 = 2 then some v.2.2 else none
theorem ints_append (a b : List Vl) : ints (a ++ b) = ints a ++ ints b := by simp [ints]
theorem wrds_append (a b : List Vl) : wrds (a ++ b) = wrds a ++ wrds b := by simp [wrds]
theorem ints_one (v : Vl) : ints [v] = if v.1 = 1 then [v.2.1] else [] := by unfold ints; by_cases h : v.1 = 1 <;> simp [h]
theorem wrds_one (v : Vl) : wrds [v] = if v.1 = 2 then [v.2.2] else [] := by unfold wrds; by_cases h : v.1 = 2 <;> simp [h]
theorem ints_step {l : List Vl} {k : Nat} {v : Vl} (h : l[k]? = some v) : ints (l.take (k + 1)) = ints (l.take k) ++ if v.1 = 1 then [v.2.1] else [] := by rw [take_snoc h, ints_append, ints_one]
theorem wrds_step {l : List Vl} {k : Nat} {v : Vl} (h : l[k]? = some v) : wrds (l.take (k + 1)) = wrds (l.take k) ++ if v.1 = 2 then [v.2.2] else [] := by rw [take_snoc h, wrds_append, wrds_one]
theorem non_at {l : List Vl} {k : Nat} {v : Vl} (h : l[k]? = some v) : non l k = nul v := by unfold non; rw [List.getElem?_map, h]; rfl
theorem non_far {l : List Vl} {k : Nat} (h : l.length ≤ k) : non l k = false := by unfold non; rw [List.getElem?_map, List.getElem?_eq_none h]; rfl
theorem ints_length_le (l : List Vl) : (ints l).length ≤ l.length := List.length_filterMap_le _ _
theorem wrds_length_le (l : List Vl) : (wrds l).length ≤ l.length := List.length_filterMap_le _ _
theorem ints_in {l : List Vl} (h : ∀ v ∈ l, In64 v.2.1) : ∀ z ∈ ints l, In64 z := by
  intro z hz
  obtain ⟨v, hv, e⟩ := List.mem_filterMap.1 hz
  split at e
  · cases e; exact h v hv
  · cases e
theorem wrds_short {l : List Vl} {q : Nat} (h : ∀ v ∈ l, v.2.2.length ≤ q) : ∀ s ∈ wrds l, s.length ≤ q := by
  intro z hz
  obtain ⟨v, hv, e⟩ := List.mem_filterMap.1 hz
  split at e
  · cases e; exact h v hv
  · cases e
/-- The kind of a value that may stand in a column, nothing aside. -/
theorem rgt_kind {kd : Int} {v : Vl} (h : rgt kd v = true) : v = (0, 0, []) ∨ (v.1 = 1 ∧ kd = 1 ∧ v.2.2 = []) ∨ (v.1 = 2 ∧ kd = 2 ∧ v.2.1 = 0) := by
  obtain ⟨a, b, c⟩ := v
  unfold rgt at h
  split at h
  · rename_i e
    have h' := of_decide_eq_true h
    left
    simp at e h' ⊢
    exact ⟨e, h'⟩
  · obtain ⟨h1, h2 | h2⟩ := of_decide_eq_true h
    · exact .inr (.inl ⟨h1.trans h2.1, h2.1, h2.2⟩)
    · exact .inr (.inr ⟨h1.trans h2.1, h2.1, h2.2⟩)
/-- The first part: is any nothing, and which. -/
def headB (l : List Vl) : List Nat := if cnt (non l) l.length = 0 then [0] else 1 :: setB (non l) l.length
/-- The others, in a way's form. -/
def frm (way : Nat) (l : List Vl) : List Nat :=
  if way = 0 then pl (ints l) else if way = 1 then rf (runs (ints l)) else if way = 2 then dl (ints l) else if way = 3 then dc (ints l) else if way = 4 then fo (ints l) else txf (wrds l)
/-- The chunk in a way. -/
def lyB (l : List Vl) (way : Nat) : List Nat := headB l ++ [way] ++ frm way l
/-- Is a way one of a kind? -/
def ofW (way kd : Int) : Bool := decide (kd = 1 ∧ 0 ≤ way ∧ way ≤ 4 ∨ kd = 2 ∧ way = 5)
/-- The best of the ways below one. -/
def bst (kd : Int) (l : List Vl) : Nat → Int
  | 0 => -1
  | k + 1 => if ofW (k : Int) kd = true ∧ (bst kd l k < 0 ∨ (lyB l k).length < (lyB l (bst kd l k).toNat).length) then (k : Int) else bst kd l k
def bestW (kd : Int) (l : List Vl) : Int := if (kd ≠ 1 ∧ kd ≠ 2) ∨ ckE kd l ≠ 0 then -1 else bst kd l 6
theorem bst_ok (kd : Int) (l : List Vl) : ∀ k : Nat, (bst kd l k = -1 ∧ ∀ j : Nat, j < k → ofW (j : Int) kd = false) ∨ (0 ≤ bst kd l k ∧ bst kd l k < k ∧ ofW (bst kd l k) kd = true ∧ ∀ j : Nat, j < k → ofW (j : Int) kd = true → (lyB l (bst kd l k).toNat).length ≤ (lyB l j).length) := by
  intro k
  induction k with
  | zero => left; exact ⟨rfl, fun j hj => absurd hj (by omega)⟩
  | succ k ih =>
    rw [bst]
    by_cases h : ofW (k : Int) kd = true ∧ (bst kd l k < 0 ∨ (lyB l k).length < (lyB l (bst kd l k).toNat).length)
    · rw [if_pos h]
      right
      refine ⟨by omega, by omega, h.1, fun j hj hw => ?_⟩
      rw [Int.toNat_natCast]
      by_cases e : j = k
      · subst e; exact Nat.le_refl _
      · rcases ih with ⟨h1, h2⟩ | ⟨h1, h2, h3, h4⟩
        · rw [h2 j (by omega)] at hw; cases hw
        · have := h4 j (by omega) hw
          rcases h.2 with h5 | h5 <;> omega
    · rw [if_neg h]
      rcases ih with ⟨h1, h2⟩ | ⟨h1, h2, h3, h4⟩
      · left
        refine ⟨h1, fun j hj => ?_⟩
        by_cases e : j = k
        · subst e
          cases hw : ofW (j : Int) kd with
          | false => rfl
          | true => exact absurd ⟨hw, .inl (by omega)⟩ h
        · exact h2 j (by omega)
      · right
        refine ⟨h1, by omega, h3, fun j hj hw => ?_⟩
        by_cases e : j = k
        · subst e
          exact Nat.le_of_not_lt fun h5 => h ⟨hw, .inr h5⟩
        · exact h4 j (by omega) hw
theorem ofW_range {way kd : Int} (h : ofW way kd = true) : 0 ≤ way ∧ way ≤ 5 ∧ (kd = 1 ∧ way ≤ 4 ∨ kd = 2 ∧ way = 5) := by
  have := of_decide_eq_true h
  omega
/-- The best way is one of the kind, and no other has fewer bytes. -/
theorem bestW_ok {kd : Int} {l : List Vl} (hk : kd = 1 ∨ kd = 2) (h : ckE kd l = 0) : ofW (bestW kd l) kd = true ∧ ∀ way : Nat, ofW (way : Int) kd = true → (lyB l (bestW kd l).toNat).length ≤ (lyB l way).length := by
  unfold bestW
  rw [if_neg (by omega)]
  rcases bst_ok kd l 6 with ⟨_, h2⟩ | ⟨h1, h2, h3, h4⟩
  · exfalso
    rcases hk with rfl | rfl
    · have := h2 0 (by omega); cases this
    · have := h2 5 (by omega); cases this
  · exact ⟨h3, fun way hw => h4 way (by have := ofW_range hw; omega) hw⟩
/-- The error's number of putting. -/
def cpE (kd way : Int) (l : List Vl) : Int := if (kd ≠ 1 ∧ kd ≠ 2) ∨ (way ≠ -1 ∧ ofW way kd = false) then 1 else ckE kd l
/-- The way that is put. -/
def cpW (kd way : Int) (l : List Vl) : Nat := (if way = -1 then bestW kd l else way).toNat
/-- What is put. -/
def cpB (kd way : Int) (l : List Vl) : List Nat := if cpE kd way l = 0 then lyB l (cpW kd way l) else []
theorem cpE_ok {kd way : Int} {l : List Vl} (h : cpE kd way l = 0) : (kd = 1 ∨ kd = 2) ∧ ckE kd l = 0 ∧ ofW (cpW kd way l : Int) kd = true ∧ cpB kd way l = lyB l (cpW kd way l) := by
  have h0 := h
  unfold cpE at h
  split at h
  · cases h
  · rename_i h1
    have hk : kd = 1 ∨ kd = 2 := by omega
    refine ⟨hk, h, ?_, by unfold cpB; rw [if_pos h0]⟩
    unfold cpW
    by_cases e : way = -1
    · rw [if_pos e]
      have hb := (bestW_ok hk h).1
      have := ofW_range hb
      rw [Int.toNat_of_nonneg (by omega)]; exact hb
    · rw [if_neg e]
      have hw : ofW way kd = true := by
        cases hw : ofW way kd with
        | true => rfl
        | false => exact absurd (.inr ⟨e, hw⟩) h1
      have := ofW_range hw
      rw [Int.toNat_of_nonneg (by omega)]; exact hw
end Go.Proofs.YtmjpjllbfgkfbaaDoor

/- The order of a column's values, told plainly: turned about it is turned; ahead of one that is ahead is ahead; the same are the same, if they may stand in columns. What is wrong with a schema, with a row. No program; no condition. -/
namespace Go.Proofs.YtmjpjllbfgkfbaaDoor
open Go.RowKit
set_option linter.unusedVariables false
set_option linter.unusedSimpArgs false

/-- Values of one kind: which is ahead. -/
def vahd (a b : Vl) : Prop := a.1 = 1 ∧ a.2.1 < b.2.1 ∨ a.1 = 2 ∧ tlt a.2.2 b.2.2
instance (a b : Vl) : Decidable (vahd a b) := by unfold vahd; exact inferInstance
/-- The order of two values. -/
def cmpV (a b : Vl) : Int := if a.1 < b.1 then -1 else if b.1 < a.1 then 1 else if vahd a b then -1 else if vahd b a then 1 else 0
/-- Below, at or above: one of three, by the kind; within a kind by its own order. -/
theorem cmp_cases (a b : Vl) : (a.1 < b.1 ∧ cmpV a b = -1) ∨ (b.1 < a.1 ∧ cmpV a b = 1) ∨ (a.1 = b.1 ∧ ((a.1 = 1 ∧ (a.2.1 < b.2.1 ∧ cmpV a b = -1 ∨ b.2.1 < a.2.1 ∧ cmpV a b = 1 ∨ a.2.1 = b.2.1 ∧ cmpV a b = 0)) ∨
    (a.1 = 2 ∧ (tlt a.2.2 b.2.2 ∧ cmpV a b = -1 ∨ tlt b.2.2 a.2.2 ∧ cmpV a b = 1 ∨ a.2.2 = b.2.2 ∧ cmpV a b = 0)) ∨ (a.1 ≠ 1 ∧ a.1 ≠ 2 ∧ cmpV a b = 0))) := by
  by_cases h1 : a.1 < b.1
  · exact .inl ⟨h1, by unfold cmpV; rw [if_pos h1]⟩
  by_cases h2 : b.1 < a.1
  · exact .inr (.inl ⟨h2, by unfold cmpV; rw [if_neg h1, if_pos h2]⟩)
  have h3 : a.1 = b.1 := by omega
  refine .inr (.inr ⟨h3, ?_⟩)
  have hc : cmpV a b = if vahd a b then -1 else if vahd b a then 1 else 0 := by unfold cmpV; rw [if_neg h1, if_neg h2]
  rw [hc]
  by_cases k1 : a.1 = 1
  · refine .inl ⟨k1, ?_⟩
    have e1 : vahd a b ↔ a.2.1 < b.2.1 := by unfold vahd; constructor; (rintro (⟨_, h⟩ | ⟨h, _⟩); exact h; omega); exact fun h => .inl ⟨k1, h⟩
    have e2 : vahd b a ↔ b.2.1 < a.2.1 := by unfold vahd; constructor; (rintro (⟨_, h⟩ | ⟨h, _⟩); exact h; omega); exact fun h => .inl ⟨by omega, h⟩
    by_cases l1 : a.2.1 < b.2.1
    · exact .inl ⟨l1, by rw [if_pos (e1.2 l1)]⟩
    by_cases l2 : b.2.1 < a.2.1
    · exact .inr (.inl ⟨l2, by rw [if_neg (fun h => l1 (e1.1 h)), if_pos (e2.2 l2)]⟩)
    · exact .inr (.inr ⟨by omega, by rw [if_neg (fun h => l1 (e1.1 h)), if_neg (fun h => l2 (e2.1 h))]⟩)
  by_cases k2 : a.1 = 2
  · refine .inr (.inl ⟨k2, ?_⟩)
    have e1 : vahd a b ↔ tlt a.2.2 b.2.2 := by unfold vahd; constructor; (rintro (⟨h, _⟩ | ⟨_, h⟩); omega; exact h); exact fun h => .inr ⟨k2, h⟩
    have e2 : vahd b a ↔ tlt b.2.2 a.2.2 := by unfold vahd; constructor; (rintro (⟨h, _⟩ | ⟨_, h⟩); omega; exact h); exact fun h => .inr ⟨by omega, h⟩
    by_cases l1 : tlt a.2.2 b.2.2
    · exact .inl ⟨l1, by rw [if_pos (e1.2 l1)]⟩
    by_cases l2 : tlt b.2.2 a.2.2
    · exact .inr (.inl ⟨l2, by rw [if_neg (fun h => l1 (e1.1 h)), if_pos (e2.2 l2)]⟩)
    · refine .inr (.inr ⟨Classical.byContradiction fun e => l2 (tlt_total l1 e), by rw [if_neg (fun h => l1 (e1.1 h)), if_neg (fun h => l2 (e2.1 h))]⟩)
  · refine .inr (.inr ⟨k1, k2, ?_⟩)
    rw [if_neg, if_neg]
    · unfold vahd; rintro (⟨h, _⟩ | ⟨h, _⟩) <;> omega
    · unfold vahd; rintro (⟨h, _⟩ | ⟨h, _⟩) <;> omega
/-- Turned about it is turned. -/
theorem cmp_turn (a b : Vl) : cmpV b a = - cmpV a b := by
  rcases cmp_cases a b with ⟨h, e⟩ | ⟨h, e⟩ | ⟨h, hr⟩
  · rw [e]; rcases cmp_cases b a with ⟨h', e'⟩ | ⟨h', e'⟩ | ⟨h', _⟩ <;> omega
  · rw [e]; rcases cmp_cases b a with ⟨h', e'⟩ | ⟨h', e'⟩ | ⟨h', _⟩ <;> omega
  · rcases cmp_cases b a with ⟨h', e'⟩ | ⟨h', e'⟩ | ⟨h', hr'⟩
    · omega
    · omega
    · rcases hr with ⟨k, hr⟩ | ⟨k, hr⟩ | ⟨k, k', hr⟩
      · rcases hr' with ⟨_, hr'⟩ | ⟨_, _⟩ | ⟨_, _, _⟩
        · rcases hr with ⟨_, e⟩ | ⟨_, e⟩ | ⟨_, e⟩ <;> rcases hr' with ⟨_, e'⟩ | ⟨_, e'⟩ | ⟨_, e'⟩ <;> omega
        · omega
        · omega
      · rcases hr' with ⟨_, _⟩ | ⟨_, hr'⟩ | ⟨_, _, _⟩
        · omega
        · rcases hr with ⟨l, e⟩ | ⟨l, e⟩ | ⟨l, e⟩ <;> rcases hr' with ⟨l', e'⟩ | ⟨l', e'⟩ | ⟨l', e'⟩
          all_goals first
            | omega
            | exact absurd l' (tlt_asymm l)
            | (rw [l'] at l; exact absurd l (tlt_irrefl _))
            | (rw [l] at l'; exact absurd l' (tlt_irrefl _))
        · omega
      · rcases hr' with ⟨_, _⟩ | ⟨_, _⟩ | ⟨_, _, e'⟩ <;> omega
theorem cmp_range (a b : Vl) : cmpV a b = -1 ∨ cmpV a b = 0 ∨ cmpV a b = 1 := by
  rcases cmp_cases a b with ⟨_, e⟩ | ⟨_, e⟩ | ⟨_, ⟨_, ⟨_, e⟩ | ⟨_, e⟩ | ⟨_, e⟩⟩ | ⟨_, ⟨_, e⟩ | ⟨_, e⟩ | ⟨_, e⟩⟩ | ⟨_, _, e⟩⟩ <;> simp [e]
/-- At or below. -/
theorem cmp_le_iff (a b : Vl) : cmpV a b ≤ 0 ↔ a.1 < b.1 ∨ a.1 = b.1 ∧ (a.1 = 1 → a.2.1 ≤ b.2.1) ∧ (a.1 = 2 → ¬ tlt b.2.2 a.2.2) := by
  rcases cmp_cases a b with ⟨h, e⟩ | ⟨h, e⟩ | ⟨h, ⟨k, ⟨l, e⟩ | ⟨l, e⟩ | ⟨l, e⟩⟩ | ⟨k, ⟨l, e⟩ | ⟨l, e⟩ | ⟨l, e⟩⟩ | ⟨k, k', e⟩⟩
  · exact ⟨fun _ => .inl h, fun _ => by omega⟩
  · exact ⟨fun _ => by omega, fun h' => by rcases h' with h' | ⟨h', _⟩ <;> omega⟩
  · exact ⟨fun _ => .inr ⟨h, fun _ => by omega, fun _ => by omega⟩, fun _ => by omega⟩
  · exact ⟨fun _ => by omega, fun h' => by rcases h' with h' | ⟨_, h', _⟩; omega; have := h' k; omega⟩
  · exact ⟨fun _ => .inr ⟨h, fun _ => by omega, fun _ => by omega⟩, fun _ => by omega⟩
  · exact ⟨fun _ => .inr ⟨h, fun _ => by omega, fun _ => tlt_asymm l⟩, fun _ => by omega⟩
  · exact ⟨fun _ => by omega, fun h' => by rcases h' with h' | ⟨_, _, h'⟩; omega; exact absurd l (h' k)⟩
  · exact ⟨fun _ => .inr ⟨h, fun _ => by omega, fun _ => by rw [l]; exact tlt_irrefl _⟩, fun _ => by omega⟩
  · exact ⟨fun _ => .inr ⟨h, fun _ => by omega, fun _ => by omega⟩, fun _ => by omega⟩
/-- Ahead of one that is ahead is ahead. -/
theorem cmp_trans {a b c : Vl} (h1 : cmpV a b ≤ 0) (h2 : cmpV b c ≤ 0) : cmpV a c ≤ 0 := by
  rw [cmp_le_iff] at *
  rcases h1 with h1 | ⟨h1, n1, t1⟩
  · rcases h2 with h2 | ⟨h2, _, _⟩
    · exact .inl (by omega)
    · exact .inl (by omega)
  · rcases h2 with h2 | ⟨h2, n2, t2⟩
    · exact .inl (by omega)
    · refine .inr ⟨by omega, fun k => ?_, fun k hlt => ?_⟩
      · have := n1 k; have := n2 (by omega); omega
      · have h3 := t1 k
        have h4 := t2 (by omega)
        by_cases e : c.2.2 = b.2.2
        · rw [e] at hlt; exact h3 hlt
        · have hbc : tlt b.2.2 c.2.2 := tlt_total h4 e
          exact h3 (tlt_trans hbc hlt)
theorem cmp_trans' {a b c : Vl} (h1 : 0 ≤ cmpV a b) (h2 : 0 ≤ cmpV b c) : 0 ≤ cmpV a c := by
  have e1 := cmp_turn a b
  have e2 := cmp_turn b c
  have e3 := cmp_turn a c
  have := cmp_trans (a := c) (b := b) (c := a) (by omega) (by omega)
  omega
/-- The same are the same, if they may stand in columns. -/
theorem cmp_same {a b : Vl} (ha : rgt 1 a = true ∨ rgt 2 a = true) (hb : rgt 1 b = true ∨ rgt 2 b = true) : cmpV a b = 0 ↔ a = b := by
  have hf : ∀ v : Vl, (rgt 1 v = true ∨ rgt 2 v = true) → v = (0, 0, []) ∨ (v.1 = 1 ∧ v.2.2 = []) ∨ (v.1 = 2 ∧ v.2.1 = 0) := by
    intro v hv
    rcases hv with hv | hv
    · rcases rgt_kind hv with e | ⟨e, _, e2⟩ | ⟨_, e, _⟩
      · exact .inl e
      · exact .inr (.inl ⟨e, e2⟩)
      · omega
    · rcases rgt_kind hv with e | ⟨_, e, _⟩ | ⟨e, _, e2⟩
      · exact .inl e
      · omega
      · exact .inr (.inr ⟨e, e2⟩)
  obtain ⟨a0, a1, a2⟩ := a
  obtain ⟨b0, b1, b2⟩ := b
  have fa := hf _ ha
  have fb := hf _ hb
  simp only [Prod.mk.injEq] at fa fb
  constructor
  · intro h
    rcases cmp_cases (a0, a1, a2) (b0, b1, b2) with ⟨_, e⟩ | ⟨_, e⟩ | ⟨h1, ⟨k, ⟨_, e⟩ | ⟨_, e⟩ | ⟨l, e⟩⟩ | ⟨k, ⟨_, e⟩ | ⟨_, e⟩ | ⟨l, e⟩⟩ | ⟨k, k', e⟩⟩
    all_goals try omega
    all_goals simp only at h1 k
    · simp only at l
      subst l
      rcases fa with ⟨e1, _, _⟩ | ⟨_, e2⟩ | ⟨e1, _⟩
      · omega
      · rcases fb with ⟨e1, _, _⟩ | ⟨_, e2'⟩ | ⟨e1, _⟩
        · omega
        · rw [e2, e2', h1]
        · omega
      · omega
    · simp only at l
      subst l
      rcases fa with ⟨e1, _, _⟩ | ⟨e1, _⟩ | ⟨_, e2⟩
      · omega
      · omega
      · rcases fb with ⟨e1, _, _⟩ | ⟨e1, _⟩ | ⟨_, e2'⟩
        · omega
        · omega
        · rw [e2, e2', h1]
    · simp only at k'
      rcases fa with ⟨e1, e2, e3⟩ | ⟨e1, _⟩ | ⟨e1, _⟩
      · rcases fb with ⟨e1', e2', e3'⟩ | ⟨e1', _⟩ | ⟨e1', _⟩
        · rw [e1, e2, e3, e1', e2', e3']
        · omega
        · omega
      · omega
      · omega
  · intro h
    rw [h]
    have := cmp_turn (b0, b1, b2) (b0, b1, b2)
    omega
end Go.Proofs.YtmjpjllbfgkfbaaDoor

/- Predicates on plain data: a predicate; its truth of a row. No program; no condition. -/
namespace Go.Proofs.YtmjpjllbfgkfbaaDoor
open Go.RowKit
set_option linter.unusedVariables false
set_option linter.unusedSimpArgs false
set_option maxRecDepth 100000

/-- A predicate: its operator, its column, its values, its parts. -/
inductive Pd where
  | mk (op col : Int) (vals : List Vl) (parts : List Pd) : Pd
def Pd.op : Pd → Int | .mk o _ _ _ => o
def Pd.col : Pd → Int | .mk _ c _ _ => c
def Pd.vals : Pd → List Vl | .mk _ _ v _ => v
def Pd.parts : Pd → List Pd | .mk _ _ _ l => l
/-- None. -/
def Pd.none_ : Pd := .mk 0 0 [] []
theorem Pd.eta (p : Pd) : p = .mk p.op p.col p.vals p.parts := by cases p; rfl
/-! A predicate's truth of a row. -/
/-- A truth. -/
def trI (is : Prop) [Decidable is] : Int := if is then 2 else 0
/-- Has a predicate of 1 to 9 what its operator has? -/
def fmd (op : Int) (v n : Nat) : Prop := (1 ≤ op ∧ op ≤ 6 ∧ v = 1 ∧ n = 0) ∨ (op = 7 ∧ v ≤ 256 ∧ n = 0) ∨ (op = 8 ∧ v = 2 ∧ n = 0) ∨ (op = 9 ∧ v = 0 ∧ n = 0)
instance (op : Int) (v n : Nat) : Decidable (fmd op v n) := by unfold fmd; exact inferInstance
/-- The truth of a comparison. -/
def prE (op : Int) (v : Vl) (vals : List Vl) : Int :=
  if op = 7 then trI (∃ u ∈ vals, cmpV v u = 0)
  else if op = 8 then trI (0 ≤ cmpV v (vals.getD 0 (0, 0, [])) ∧ cmpV v (vals.getD 1 (0, 0, [])) ≤ 0)
  else
    let c := cmpV v (vals.getD 0 (0, 0, []))
    if op = 1 then trI (c = 0) else if op = 2 then trI (c ≠ 0) else if op = 3 then trI (c < 0) else if op = 4 then trI (c ≤ 0) else if op = 5 then trI (0 < c) else trI (0 ≤ c)
/-- The truth of one that names a column. -/
def clE (op col : Int) (vals : List Vl) (n : Nat) (row : List Vl) : Int :=
  if col < 0 ∨ (row.length : Int) ≤ col then 1
  else
    let v := row.getD col.toNat (0, 0, [])
    if op = 9 then trI (v.1 = 0) else if v.1 = 0 ∨ ¬ fmd op vals.length n then 1 else prE op v vals
mutual
/-- The truth of a predicate. -/
def evP (row : List Vl) : Pd → Int
  | .mk op col vals parts =>
    if op = 0 then 2
    else if 1 ≤ op ∧ op ≤ 9 then clE op col vals parts.length row
    else if op < 0 ∨ 12 < op ∨ parts.length = 0 then 1
    else
      let ts := evL row parts
      if op = 12 then 2 - ts.headD 0 else if op = 10 then ts.tail.foldl (fun t x => if x < t then x else t) (ts.headD 0) else ts.tail.foldl (fun t x => if t < x then x else t) (ts.headD 0)
/-- The truths of parts. -/
def evL (row : List Vl) : List Pd → List Int
  | [] => []
  | p :: l => evP row p :: evL row l
end
theorem evL_map (row : List Vl) : ∀ l, evL row l = l.map (evP row)
  | [] => by simp [evL]
  | p :: l => by rw [evL, evL_map row l]; rfl
theorem evL_length (row : List Vl) (l : List Pd) : (evL row l).length = l.length := by rw [evL_map, List.length_map]
end Go.Proofs.YtmjpjllbfgkfbaaDoor

/- Rows of the call's own while other blocks change. No program. -/
namespace Go.Proofs.YtmjpjllbfgkfbaaDoor
open Go.RowKit
set_option linter.unusedVariables false
set_option linter.unusedSimpArgs false
set_option maxRecDepth 100000

theorem own_kept {w w' : World} {base : Nat} {e : TypeId} {size n : Nat} {v : Value} {xs : List Value} {row : Option Nat} (h : w.ownsRow base e size v n xs) (hg : w.grownBy w' row)
    (hr : ∀ r, row = some r → ∃ o : Obj, w.heap[r]? = some o ∧ o.isCells = false) : w'.ownsRow base e size v n xs := by
  refine ⟨h.1, ?_⟩
  rcases h.2 with hn | ⟨g, cap, cur, rfl, h1, hgc, rest⟩
  · exact .inl hn
  · refine .inr ⟨g, cap, cur, rfl, h1, (hg.block g (Array.getElem?_eq_some_iff.1 hgc).1 (fun e => ?_)).trans hgc, rest⟩
    obtain ⟨o, ho, hc⟩ := hr g e.symm
    rw [hgc] at ho
    injection ho with ho
    subst ho
    cases hc
theorem own_before {w w' : World} {base : Nat} {e : TypeId} {size n : Nat} {v : Value} {xs : List Value} {row : Option Nat} (h : w.ownsRow base e size v n xs) (hg : w.grownBy w' row)
    (hr : ∀ r, row = some r → r < base) : w'.ownsRow base e size v n xs := by
  refine ⟨h.1, ?_⟩
  rcases h.2 with hn | ⟨g, cap, cur, rfl, h1, hgc, rest⟩
  · exact .inl hn
  · exact .inr ⟨g, cap, cur, rfl, h1, (hg.block g (Array.getElem?_eq_some_iff.1 hgc).1 (fun e => by have := hr g e.symm; omega)).trans hgc, rest⟩
theorem own_cells {w : World} {base : Nat} {e : TypeId} {size n : Nat} {v : Value} {xs : List Value} (h : w.ownsRow base e size v n xs) {g : Nat} (hg : v.ownBlock = some g) : base ≤ g ∧ ∀ o : Obj, w.heap[g]? = some o → o.isCells = true := by
  refine ⟨(h.lt g hg).1, fun o ho => ?_⟩
  rcases h.2 with ⟨rfl, _⟩ | ⟨g', cap, cur, rfl, h1, hgc, rest⟩
  · cases hg
  · have : g' = g := by simpa [Value.ownBlock] using hg
    subst this
    rw [hgc] at ho
    injection ho with ho
    subst ho
    rfl
end Go.Proofs.YtmjpjllbfgkfbaaDoor

/- Slices that stand while a reader's block changes; a new element of three cells. No program; no condition. -/
namespace Go.Proofs.YtmjpjllbfgkfbaaDoor
open Go.RowKit
set_option linter.unusedVariables false
set_option linter.unusedSimpArgs false
set_option maxRecDepth 100000

/-- The slice lies off the block. -/
def Apart (A : Option Addr) (g : Nat) : Prop := ∀ ad, A = some ad → ad.block ≠ g
theorem Apart.none_ (g : Nat) : Apart none g := fun ad h => by cases h
theorem Reads.off {w w' : World} {size n g : Nat} {A : Option Addr} {xs : List Value} (h : Reads w w.heap.size size A n xs) (hg : w.grownBy w' (some g)) (hne : Apart A g) : Reads w' w'.heap.size size A n xs := by
  refine ⟨h.1, fun hn => ?_⟩
  obtain ⟨ad, had, hlt, hc⟩ := h.2 hn
  refine ⟨ad, had, Nat.lt_of_lt_of_le hlt hg.size, fun j u hu => hg.cell (hc j u hu) ?_⟩
  rw [block_of_add]
  intro e
  injection e with e
  exact hne ad had e
/-- A new element of three cells. -/
theorem reads3 (w : World) (t : TypeId) (a b c : Value) : Reads (w.alloc (.cells #[a, b, c] t)) (w.heap.size + 1) 3 (some ⟨w.heap.size, 0, none⟩) 1 [a, b, c] := by
  refine ⟨rfl, fun _ => ⟨_, rfl, Nat.lt_succ_self _, fun j u hu => ?_⟩⟩
  rw [plain_add, Nat.zero_add, (Blk.new w t #[a, b, c]).cell]
  simpa using hu
/-- A row of the call's own lies off what was there before it. -/
theorem own_apart {w : World} {B g n size : Nat} {t : TypeId} {A : Option Addr} {c : Nat} {xs : List Value} (h : w.ownsRow B t size (.slice A n c) n xs) (hg : g < B) : Apart A g := by
  intro ad had
  rcases h.2 with ⟨e, _⟩ | ⟨q, cap, cur, e, hB, _⟩
  · injection e with e; rw [e] at had; cases had
  · injection e with e; rw [e] at had; injection had with had; subst had; show q ≠ g; omega
theorem only_rowN {a w w2 : World} {g n size : Nat} {B : Nat} {t : TypeId} {v : Value} {xs : List Value} (h : a.grownBy w (some g)) (hB : a.heap.size ≤ B) (hown : w.ownsRow B t size v n xs) (o : Obj) (hg : (w.alloc o).grownBy w2 v.ownBlock) : a.grownBy w2 (some g) := by
  have h1 := only_alloc h o
  refine ⟨hg.os.trans h1.os, hg.tape.trans h1.tape, hg.output.trans h1.output, Nat.le_trans h1.size hg.size, fun i hi hne => ?_⟩
  refine (hg.block i (Nat.lt_of_lt_of_le hi h1.size) (fun e => ?_)).trans (h1.block i hi hne)
  have := (hown.lt i e.symm).1
  omega
end Go.Proofs.YtmjpjllbfgkfbaaDoor
