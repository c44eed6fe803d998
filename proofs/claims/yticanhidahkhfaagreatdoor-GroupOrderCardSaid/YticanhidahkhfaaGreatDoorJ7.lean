import Derived.Test.YticanhidahkhfaaGreatDoorJ5
import Derived.Test.YticanhidahkhfaaGreatDoorJ6
namespace Go.Proofs.YticanhidahkhfaaGreatDoor
open Go.RowKit
set_option linter.unusedVariables false
set_option linter.unusedSimpArgs false
set_option maxRecDepth 100000
theorem w64_back (p z : Int) (h : In64 z) : wrap64 (p + wrap64 (z - p)) = z := by unfold In64 at h; rw [w64, w64]; omega
theorem w64_forth (p z : Int) (h : In64 z) : wrap64 (wrap64 (p + z) - p) = z := by unfold In64 at h; rw [w64, w64]; omega
theorem w64_shift (y z d : Int) : wrap64 (wrap64 (y + d) - wrap64 (z + d)) = wrap64 (y - z) := by rw [w64, w64, w64, w64]; omega
def stp (p : Int) : List Int → List Int
  | [] => []
  | z :: l => wrap64 (z - p) :: stp z l
def sms (p : Int) : List Int → List Int
  | [] => []
  | s :: l => wrap64 (p + s) :: sms (wrap64 (p + s)) l
theorem stp_length (l : List Int) : ∀ p, (stp p l).length = l.length := by
  induction l with
  | nil => intro p; rfl
  | cons z l ih => intro p; simp [stp, ih]
theorem sms_length (l : List Int) : ∀ p, (sms p l).length = l.length := by
  induction l with
  | nil => intro p; rfl
  | cons z l ih => intro p; simp [sms, ih]
theorem stp_in (l : List Int) : ∀ p, ∀ z ∈ stp p l, In64 z := by
  induction l with
  | nil => intro p z h; simp [stp] at h
  | cons y l ih =>
    intro p z h
    rcases List.mem_cons.1 h with rfl | h
    · exact w64_in _
    · exact ih y z h
theorem sms_in (l : List Int) : ∀ p, ∀ z ∈ sms p l, In64 z := by
  induction l with
  | nil => intro p z h; simp [sms] at h
  | cons y l ih =>
    intro p z h
    rcases List.mem_cons.1 h with rfl | h
    · exact w64_in _
    · exact ih _ z h
theorem sms_stp (l : List Int) (h : ∀ z ∈ l, In64 z) : ∀ p, sms p (stp p l) = l := by
  induction l with
  | nil => intro p; rfl
  | cons z l ih =>
    intro p
    have e := w64_back p z (h z (by simp))
    simp only [stp, sms]
    rw [e, ih (fun x hx => h x (by simp [hx]))]
theorem stp_sms (l : List Int) (h : ∀ z ∈ l, In64 z) : ∀ p, stp p (sms p l) = l := by
  induction l with
  | nil => intro p; rfl
  | cons z l ih =>
    intro p
    have e := w64_forth p z (h z (by simp))
    simp only [stp, sms]
    rw [e, ih (fun x hx => h x (by simp [hx]))]
def ahd (p : Int) (l : List Int) (k : Nat) : Int := ((p :: l)[k]?).getD 0
theorem ahd_zero (p : Int) (l : List Int) : ahd p l 0 = p := rfl
theorem ahd_succ {p : Int} {l : List Int} {k : Nat} {z : Int} (h : l[k]? = some z) : ahd p l (k + 1) = z := by unfold ahd; simp [h]
theorem ahd_in {l : List Int} (h : ∀ z ∈ l, In64 z) (k : Nat) : In64 (ahd 0 l k) := by
  unfold ahd
  cases hk : (0 :: l)[k]? with
  | none => simp [In64]
  | some z =>
    rcases List.mem_cons.1 (List.mem_of_getElem? hk) with rfl | h1
    · simp [In64]
    · simpa using h z h1
theorem stp_at (l : List Int) : ∀ (p : Int) (k : Nat) (z : Int), l[k]? = some z → (stp p l)[k]? = some (wrap64 (z - ahd p l k)) := by
  induction l with
  | nil => intro p k z h; simp at h
  | cons y l ih =>
    intro p k z h
    cases k with
    | zero => simp at h; subst h; simp [stp, ahd]
    | succ k =>
      simp at h
      have := ih y k z h
      simp only [stp, List.getElem?_cons_succ]
      rw [this]
      rfl
def smA (p : Int) (l : List Int) : Nat → Int
  | 0 => p
  | k + 1 => wrap64 (smA p l k + (l[k]?).getD 0)
theorem smA_succ {p : Int} {l : List Int} {k : Nat} {z : Int} (h : l[k]? = some z) : smA p l (k + 1) = wrap64 (smA p l k + z) := by simp [smA, h]
theorem smA_in {p : Int} (hp : In64 p) (l : List Int) (k : Nat) : In64 (smA p l k) := by
  cases k with
  | zero => exact hp
  | succ k => exact w64_in _
theorem smA_cons (p z : Int) (l : List Int) : ∀ k, smA (wrap64 (p + z)) l k = smA p (z :: l) (k + 1) := by
  intro k
  induction k with
  | zero => simp [smA]
  | succ k ih => simp only [smA] at ih ⊢; rw [ih]; simp
theorem sms_at (l : List Int) : ∀ (p : Int) (k : Nat) (z : Int), l[k]? = some z → (sms p l)[k]? = some (smA p l (k + 1)) := by
  induction l with
  | nil => intro p k z h; simp at h
  | cons y l ih =>
    intro p k z h
    cases k with
    | zero => simp [sms, smA]
    | succ k =>
      simp at h
      simp only [sms, List.getElem?_cons_succ]
      rw [ih _ k z h, smA_cons]
def zb (l : List Int) : List Nat := ((stp 0 l).drop 1).map zg
theorem zb_length (l : List Int) : (zb l).length = l.length - 1 := by simp [zb, stp_length]
theorem zb_lt (l : List Int) : ∀ a ∈ zb l, a < 18446744073709551616 := by
  intro a h
  obtain ⟨z, hz, rfl⟩ := List.mem_map.1 h
  exact (zg_int (stp_in l 0 z (List.mem_of_mem_drop hz))).2
theorem wd_64 (l : List Nat) (h : ∀ a ∈ l, a < 18446744073709551616) : wd l ≤ 64 := (wd_le l 64).2 (by intro a ha; have := h a ha; omega)
theorem wd_zb (l : List Int) : wd (zb l) ≤ 64 := wd_64 _ (zb_lt l)
def dl1 (l : List Int) : List Nat := match l with | [] => [] | z :: _ => vb (zg z)
def dl2 (l : List Int) : List Nat := if l.length ≤ 1 then [] else [wd (zb l)]
def dl3 (l : List Int) : List Nat := if l.length ≤ 1 then [] else packB (wd (zb l)) (zb l)
def dl (l : List Int) : List Nat := dl1 l ++ dl2 l ++ dl3 l
theorem dl_nil : dl [] = [] := rfl
theorem dl1_cons (z : Int) (l : List Int) : dl1 (z :: l) = vb (zg z) := rfl
theorem dl_parts (l : List Int) : (dl1 l).length ≤ 10 ∧ (dl2 l).length ≤ 1 ∧ (l.length ≤ 65536 → (dl3 l).length ≤ 524289) := by
  refine ⟨?_, ?_, fun h => ?_⟩
  · cases l with
    | nil => simp [dl1]
    | cons z l => rw [dl1_cons]; exact (vb_length _).2
  · unfold dl2; split <;> simp
  · unfold dl3
    split
    · simp
    · rw [packB_length, zb_length]
      have h1 := wd_zb l
      have h2 : (l.length - 1) * wd (zb l) ≤ 65536 * 64 := Nat.mul_le_mul (by omega) h1
      unfold sz; omega
theorem dl_length (l : List Int) (h : l.length ≤ 65536) : (dl l).length ≤ 524300 := by
  obtain ⟨h1, h2, h3⟩ := dl_parts l
  have := h3 h
  unfold dl; rw [List.length_append, List.length_append]; omega
theorem dl_byte (l : List Int) (h : ∀ z ∈ l, In64 z) : ∀ b ∈ dl l, b < 256 := by
  intro b hb
  unfold dl at hb
  rcases List.mem_append.1 hb with hb | hb
  · rcases List.mem_append.1 hb with hb | hb
    · cases l with
      | nil => simp [dl1] at hb
      | cons z l => exact vb_byte _ (zg_int (h z (by simp))).2 b hb
    · unfold dl2 at hb
      have := wd_zb l
      split at hb
      · simp at hb
      · simp at hb; omega
  · unfold dl3 at hb
    split at hb
    · simp at hb
    · exact packB_byte _ _ b hb
theorem stp_shift (d : Int) (l : List Int) : ∀ z, stp (wrap64 (z + d)) (l.map fun y => wrap64 (y + d)) = stp z l := by
  induction l with
  | nil => intro z; rfl
  | cons y l ih => intro z; simp only [List.map_cons, stp]; rw [w64_shift, ih]
theorem zb_shift (d : Int) (l : List Int) : zb (l.map fun y => wrap64 (y + d)) = zb l := by
  cases l with
  | nil => rfl
  | cons z l => simp [zb, stp, stp_shift]
theorem drop_shift (d : Int) (l : List Int) : (stp 0 (l.map fun y => wrap64 (y + d))).drop 1 = (stp 0 l).drop 1 := by
  cases l with
  | nil => rfl
  | cons z l => simp [stp, stp_shift]
theorem dl_behind (l : List Int) : (dl l).drop (dl1 l).length = dl2 l ++ dl3 l := by
  unfold dl; rw [List.append_assoc, List.drop_append_of_le_length (Nat.le_refl _), List.drop_length, List.nil_append]
theorem dl_shift (d : Int) (l : List Int) : dl2 (l.map fun y => wrap64 (y + d)) ++ dl3 (l.map fun y => wrap64 (y + d)) = dl2 l ++ dl3 l := by
  unfold dl2 dl3; rw [zb_shift, List.length_map]
end Go.Proofs.YticanhidahkhfaaGreatDoor
namespace Go.Proofs.YticanhidahkhfaaGreatDoor
open Go.RowKit
set_option linter.unusedVariables false
set_option linter.unusedSimpArgs false
set_option maxRecDepth 100000
def Rise (L : List Int) : Prop := L.Pairwise (· < ·)
def insD (z : Int) : List Int → List Int
  | [] => [z]
  | y :: l => if y < z then y :: insD z l else if y = z then y :: l else z :: y :: l
def lstD (l : List Int) : List Int := l.foldl (fun o z => insD z o) []
theorem insD_mem (z x : Int) (L : List Int) : x ∈ insD z L ↔ x = z ∨ x ∈ L := by
  induction L with
  | nil => simp [insD]
  | cons y L ih =>
    simp only [insD]
    split
    · rw [List.mem_cons, ih, List.mem_cons]
      constructor
      · rintro (h | h | h) <;> simp [h]
      · rintro (h | h | h) <;> simp [h]
    · split
      · rename_i h1 h2
        subst h2
        rw [List.mem_cons]
        constructor
        · rintro (h | h) <;> simp [h]
        · rintro (h | h | h) <;> simp [h]
      · rw [List.mem_cons]
theorem insD_rise (z : Int) (L : List Int) (h : Rise L) : Rise (insD z L) := by
  induction L with
  | nil => simp [insD, Rise]
  | cons y L ih =>
    obtain ⟨h1, h2⟩ := List.pairwise_cons.1 h
    simp only [insD]
    split
    · rename_i hy
      refine List.pairwise_cons.2 ⟨fun x hx => ?_, ih h2⟩
      rcases (insD_mem z x L).1 hx with rfl | hx
      · exact hy
      · exact h1 x hx
    · split
      · exact h
      · refine List.pairwise_cons.2 ⟨fun x hx => ?_, h⟩
        rcases List.mem_cons.1 hx with rfl | hx
        · omega
        · have := h1 x hx; omega
theorem foldD_mem (l : List Int) : ∀ (o : List Int) (x : Int), x ∈ l.foldl (fun o z => insD z o) o ↔ x ∈ l ∨ x ∈ o := by
  induction l with
  | nil => intro o x; simp
  | cons z l ih =>
    intro o x
    rw [List.foldl_cons, ih, insD_mem, List.mem_cons]
    constructor
    · rintro (h | h | h) <;> simp [h]
    · rintro ((h | h) | h) <;> simp [h]
theorem foldD_rise (l : List Int) : ∀ o, Rise o → Rise (l.foldl (fun o z => insD z o) o) := by
  induction l with
  | nil => intro o h; exact h
  | cons z l ih => intro o h; exact ih _ (insD_rise z o h)
theorem lstD_mem (l : List Int) (x : Int) : x ∈ lstD l ↔ x ∈ l := by unfold lstD; rw [foldD_mem]; simp
theorem lstD_rise (l : List Int) : Rise (lstD l) := foldD_rise l [] List.Pairwise.nil
theorem rise_ext : ∀ (a b : List Int), Rise a → Rise b → (∀ x, x ∈ a ↔ x ∈ b) → a = b := by
  intro a
  induction a with
  | nil =>
    intro b _ _ h
    cases b with
    | nil => rfl
    | cons y b => have := (h y).2 (by simp); simp at this
  | cons x a ih =>
    intro b ha hb h
    cases b with
    | nil => have := (h x).1 (by simp); simp at this
    | cons y b =>
      obtain ⟨a1, a2⟩ := List.pairwise_cons.1 ha
      obtain ⟨b1, b2⟩ := List.pairwise_cons.1 hb
      have exy : x = y := by
        have h1 := (h x).1 (by simp)
        have h2 := (h y).2 (by simp)
        rcases List.mem_cons.1 h1 with h1 | h1
        · exact h1
        · rcases List.mem_cons.1 h2 with h2 | h2
          · exact h2.symm
          · have := b1 x h1; have := a1 y h2; omega
      subst exy
      congr 1
      refine ih b a2 b2 fun z => ?_
      constructor
      · intro hz
        rcases List.mem_cons.1 ((h z).1 (List.mem_cons_of_mem _ hz)) with rfl | h1
        · have := a1 z hz; omega
        · exact h1
      · intro hz
        rcases List.mem_cons.1 ((h z).2 (List.mem_cons_of_mem _ hz)) with rfl | h1
        · have := b1 z hz; omega
        · exact h1
theorem insD_length (z : Int) (L : List Int) : (insD z L).length ≤ L.length + 1 := by
  induction L with
  | nil => simp [insD]
  | cons y L ih =>
    simp only [insD]
    split
    · simp only [List.length_cons]; omega
    · split <;> simp
theorem foldD_length (l : List Int) : ∀ o : List Int, (l.foldl (fun o z => insD z o) o).length ≤ o.length + l.length := by
  induction l with
  | nil => intro o; simp
  | cons z l ih =>
    intro o
    have h1 := ih (insD z o)
    have h2 := insD_length z o
    rw [List.foldl_cons, List.length_cons]; omega
theorem lstD_length (l : List Int) : (lstD l).length ≤ l.length := by have := foldD_length l []; simp at this; exact this
theorem lstD_in {l : List Int} (h : ∀ z ∈ l, In64 z) : ∀ z ∈ lstD l, In64 z := fun z hz => h z ((lstD_mem l z).1 hz)
theorem lstD_same {l m : List Int} (h : ∀ x, x ∈ l ↔ x ∈ m) : lstD l = lstD m := rise_ext _ _ (lstD_rise l) (lstD_rise m) fun x => by rw [lstD_mem, lstD_mem, h]
theorem lstD_of_rise {L : List Int} (h : Rise L) : lstD L = L := rise_ext _ _ (lstD_rise L) h fun x => lstD_mem L x
theorem lstD_nil : lstD [] = [] := rfl
theorem lstD_snoc (l : List Int) (z : Int) : lstD (l ++ [z]) = insD z (lstD l) := by simp [lstD]
def uqD (l : List Int) : List Int := l.foldl (fun o z => if z ∈ o then o else o ++ [z]) []
theorem uqD_snoc (l : List Int) (z : Int) : uqD (l ++ [z]) = if z ∈ uqD l then uqD l else uqD l ++ [z] := by unfold uqD; rw [List.foldl_append]; rfl
theorem uqD_both (l : List Int) : (∀ x, x ∈ uqD l ↔ x ∈ l) ∧ (uqD l).Nodup ∧ (uqD l).length ≤ l.length := by
  have key : ∀ m : List Int, (∀ x, x ∈ uqD m.reverse ↔ x ∈ m.reverse) ∧ (uqD m.reverse).Nodup ∧ (uqD m.reverse).length ≤ m.reverse.length := by
    intro m
    induction m with
    | nil => simp [uqD]
    | cons z m ih =>
      obtain ⟨i1, i2, i3⟩ := ih
      rw [List.reverse_cons, uqD_snoc]
      by_cases hz : z ∈ uqD m.reverse
      · rw [if_pos hz]
        refine ⟨fun x => ?_, i2, by rw [List.length_append]; omega⟩
        rw [i1 x, List.mem_append, List.mem_singleton]
        constructor
        · exact .inl
        · rintro (h | rfl)
          · exact h
          · exact (i1 x).1 hz
      · rw [if_neg hz]
        refine ⟨fun x => ?_, ?_, by simp only [List.length_append, List.length_singleton]; omega⟩
        · rw [List.mem_append, List.mem_append, i1 x]
        · rw [List.nodup_append]
          refine ⟨i2, by simp, ?_⟩
          intro a ha b hb e
          rw [List.mem_singleton] at hb
          subst hb
          subst e
          exact hz ha
  have := key l.reverse
  rwa [List.reverse_reverse] at this
theorem uqD_mem (l : List Int) (x : Int) : x ∈ uqD l ↔ x ∈ l := (uqD_both l).1 x
theorem uqD_length (l : List Int) : (uqD l).length ≤ l.length := (uqD_both l).2.2
theorem sort_uqD (l : List Int) : (uqD l).mergeSort (fun x y => decide (x ≤ y)) = lstD l := by
  have hp : ((uqD l).mergeSort (fun x y => decide (x ≤ y))).Perm (uqD l) := List.mergeSort_perm _ _
  have hs : ((uqD l).mergeSort (fun x y => decide (x ≤ y))).Pairwise (fun a b => decide (a ≤ b) = true) := List.pairwise_mergeSort (fun a b c h1 h2 => by simp at *; omega) (fun a b => by simp; omega) _
  have hn : ((uqD l).mergeSort (fun x y => decide (x ≤ y))).Nodup := hp.nodup_iff.2 (uqD_both l).2.1
  refine rise_ext _ _ ?_ (lstD_rise l) fun x => by rw [hp.mem_iff, uqD_mem, lstD_mem]
  unfold Rise
  refine (hs.and hn).imp ?_
  rintro a b ⟨h1, h2⟩
  have h3 : a ≤ b := by simpa using h1
  have h4 : a ≠ b := h2
  omega
def posD (L : List Int) (z : Int) : Nat := L.idxOf z
theorem posD_lt {L : List Int} {z : Int} (h : z ∈ L) : posD L z < L.length := List.idxOf_lt_length_of_mem h
theorem posD_at {L : List Int} {z : Int} (h : z ∈ L) : L[posD L z]? = some z := by
  have hl := posD_lt h
  rw [List.getElem?_eq_getElem hl]
  congr 1
  exact List.getElem_idxOf hl
theorem rise_inj {L : List Int} (h : Rise L) {i j : Nat} {z : Int} (hi : L[i]? = some z) (hj : L[j]? = some z) : i = j := by
  obtain ⟨hi1, hi2⟩ := List.getElem?_eq_some_iff.1 hi
  obtain ⟨hj1, hj2⟩ := List.getElem?_eq_some_iff.1 hj
  have hp := List.pairwise_iff_getElem.1 h
  rcases Nat.lt_trichotomy i j with hlt | he | hlt
  · have := hp i j hi1 hj1 hlt; omega
  · exact he
  · have := hp j i hj1 hi1 hlt; omega
theorem posD_of {L : List Int} (h : Rise L) {i : Nat} {z : Int} (hi : L[i]? = some z) : posD L z = i := rise_inj h (posD_at (List.mem_of_getElem? hi)) hi
def plcD (l : List Int) : List Nat := l.map (posD (lstD l))
theorem plcD_length (l : List Int) : (plcD l).length = l.length := by simp [plcD]
theorem plcD_lt (l : List Int) : ∀ a ∈ plcD l, a < (lstD l).length := by
  intro a h
  obtain ⟨z, hz, rfl⟩ := List.mem_map.1 h
  exact posD_lt ((lstD_mem l z).2 hz)
theorem plcD_all (l : List Int) (i : Nat) (h : i < (lstD l).length) : i ∈ plcD l := by
  have hi : (lstD l)[i]? = some (lstD l)[i] := List.getElem?_eq_getElem h
  exact List.mem_map.2 ⟨_, (lstD_mem l _).1 (List.getElem_mem h), posD_of (lstD_rise l) hi⟩
theorem wd_plcD (l : List Int) : wd (plcD l) = blen ((lstD l).length - 1) := by
  have h1 : wd (plcD l) ≤ blen ((lstD l).length - 1) := by
    rw [wd_le]
    intro a ha
    have hlt := plcD_lt l a ha
    have h2 := (blen_le ((lstD l).length - 1) _).1 (Nat.le_refl _)
    omega
  have h2 : blen ((lstD l).length - 1) ≤ wd (plcD l) := by
    rw [blen_le]
    rcases Nat.eq_zero_or_pos (lstD l).length with h0 | h0
    · rw [h0]; exact Nat.two_pow_pos _
    · exact (wd_le (plcD l) _).1 (Nat.le_refl _) _ (plcD_all l _ (by omega))
  omega
def gpD (p : Int) : List Int → List Nat
  | [] => []
  | z :: l => (z - p - 1).toNat :: gpD z l
def htD : List Int → List Nat
  | [] => []
  | z :: l => zg z :: gpD z l
def hnD (L : List Int) : List Nat := L.length :: htD L
def vbs (ns : List Nat) : List Nat := ns.flatMap vb
theorem vbs_append (a b : List Nat) : vbs (a ++ b) = vbs a ++ vbs b := by simp [vbs]
theorem vbs_one (a : Nat) : vbs [a] = vb a := by simp [vbs]
theorem vbs_cons (a : Nat) (l : List Nat) : vbs (a :: l) = vb a ++ vbs l := by simp [vbs]
theorem vbs_step {l : List Nat} {k a : Nat} (h : l[k]? = some a) : vbs (l.take (k + 1)) = vbs (l.take k) ++ vb a := by rw [take_snoc h, vbs_append, vbs_one]
theorem vbs_length (l : List Nat) : (vbs l).length ≤ 10 * l.length := by
  induction l with
  | nil => simp [vbs]
  | cons a l ih =>
    have := vb_length a
    rw [vbs_cons, List.length_append, List.length_cons]; omega
theorem vbs_byte (l : List Nat) (h : ∀ a ∈ l, a < 18446744073709551616) : ∀ b ∈ vbs l, b < 256 := by
  intro b hb
  obtain ⟨a, ha, hb⟩ := List.mem_flatMap.1 hb
  exact vb_byte _ (h a ha) b hb
theorem vbs_pl (ns : List Nat) : vbs ns = pl (ns.map fun v : Nat => zagI (v : Int)) := by
  induction ns with
  | nil => rfl
  | cons a l ih => rw [vbs_cons, List.map_cons, pl_cons, zg_zagI, ih]
theorem gpD_length (L : List Int) : ∀ p, (gpD p L).length = L.length := by
  induction L with
  | nil => intro p; rfl
  | cons z l ih => intro p; simp [gpD, ih]
theorem htD_length (L : List Int) : (htD L).length = L.length := by cases L <;> simp [htD, gpD_length]
theorem gpD_lt (L : List Int) : ∀ p, In64 p → (∀ z ∈ L, In64 z) → ∀ a ∈ gpD p L, a < 18446744073709551616 := by
  induction L with
  | nil => intro p _ _ a h; simp [gpD] at h
  | cons z l ih =>
    intro p hp hl a h
    have hz := hl z (by simp)
    unfold In64 at hp hz
    rcases List.mem_cons.1 h with rfl | h
    · omega
    · exact ih z hz (fun x hx => hl x (by simp [hx])) a h
theorem htD_lt (L : List Int) (h : ∀ z ∈ L, In64 z) : ∀ a ∈ htD L, a < 18446744073709551616 := by
  cases L with
  | nil => intro a ha; simp [htD] at ha
  | cons z l =>
    intro a ha
    rcases List.mem_cons.1 ha with rfl | ha
    · exact (zg_int (h z (by simp))).2
    · exact gpD_lt l z (h z (by simp)) (fun x hx => h x (by simp [hx])) a ha
theorem gpD_at (L : List Int) : ∀ (p : Int) (k : Nat) (y z : Int), (p :: L)[k]? = some y → L[k]? = some z → (gpD p L)[k]? = some (z - y - 1).toNat := by
  induction L with
  | nil => intro p k y z _ h; simp at h
  | cons x l ih =>
    intro p k y z hy hz
    cases k with
    | zero => simp at hy hz; subst hy; subst hz; rfl
    | succ k =>
      simp only [List.getElem?_cons_succ] at hy hz
      simp only [gpD, List.getElem?_cons_succ]
      exact ih x k y z hy hz
theorem htD_zero {L : List Int} {z : Int} (h : L[0]? = some z) : (htD L)[0]? = some (zg z) := by
  cases L with
  | nil => simp at h
  | cons x l => simp at h; subst h; rfl
theorem htD_succ {L : List Int} {k : Nat} {y z : Int} (hy : L[k]? = some y) (hz : L[k + 1]? = some z) : (htD L)[k + 1]? = some (z - y - 1).toNat := by
  cases L with
  | nil => simp at hy
  | cons x l =>
    simp only [List.getElem?_cons_succ] at hz
    show (gpD x l)[k]? = _
    exact gpD_at l x k y z hy hz
theorem gap_eq {y z : Int} (hy : In64 y) (hz : In64 z) (h : y < z) : IntKind.u64.wrap (IntKind.u64.wrap (wrap64 (z - y)) - 1) = ((z - y - 1).toNat : Int) := by
  rw [u64w, u64w]
  unfold wrap64
  unfold In64 at hy hz
  omega
theorem gap_eq2 {y z : Int} (hy : In64 y) (hz : In64 z) (h : y < z) : IntKind.u64.wrap (IntKind.u64.wrap (IntKind.u64.wrap z - IntKind.u64.wrap y) - 1) = ((z - y - 1).toNat : Int) := by
  rw [u64w, u64w, u64w, u64w]
  unfold In64 at hy hz
  omega
def hdD (L : List Int) : List Nat := vbs (hnD L)
theorem hdD_eq (L : List Int) : hdD L = vb L.length ++ vbs (htD L) := vbs_cons _ _
theorem hdD_length (L : List Int) : (hdD L).length ≤ 10 * L.length + 10 := by
  have := vbs_length (hnD L)
  unfold hdD; simp only [hnD, List.length_cons, htD_length] at this ⊢; omega
def dc (l : List Int) : List Nat := hdD (lstD l) ++ [wd (plcD l)] ++ packB (wd (plcD l)) (plcD l)
theorem dc_flat (l : List Int) : dc l = [hdD (lstD l), [wd (plcD l)], packB (wd (plcD l)) (plcD l)].flatten := by simp [dc]
theorem wd_plcD_le (l : List Int) (h : l.length ≤ 65536) : wd (plcD l) ≤ 16 := by
  rw [wd_plcD, blen_le]
  have := lstD_length l
  omega
theorem dc_parts (l : List Int) (h : l.length ≤ 65536) : (hdD (lstD l)).length ≤ 655370 ∧ (packB (wd (plcD l)) (plcD l)).length ≤ 131073 := by
  have h1 := lstD_length l
  have h2 := hdD_length (lstD l)
  refine ⟨by omega, ?_⟩
  rw [packB_length, plcD_length]
  have h3 := wd_plcD_le l h
  have h4 : l.length * wd (plcD l) ≤ 65536 * 16 := Nat.mul_le_mul h h3
  unfold sz; omega
theorem dc_length (l : List Int) (h : l.length ≤ 65536) : (dc l).length ≤ 786444 := by
  obtain ⟨h1, h2⟩ := dc_parts l h
  unfold dc; rw [List.length_append, List.length_append, List.length_singleton]; omega
theorem dc_byte (l : List Int) (hn : l.length ≤ 65536) (h : ∀ z ∈ l, In64 z) : ∀ b ∈ dc l, b < 256 := by
  intro b hb
  have hw := wd_plcD_le l hn
  have hl := lstD_length l
  unfold dc at hb
  rcases List.mem_append.1 hb with hb | hb
  · rcases List.mem_append.1 hb with hb | hb
    · refine vbs_byte (hnD (lstD l)) (fun a ha => ?_) b hb
      rcases List.mem_cons.1 ha with rfl | ha
      · omega
      · exact htD_lt _ (lstD_in h) a ha
    · simp at hb; omega
  · exact packB_byte _ _ b hb
end Go.Proofs.YticanhidahkhfaaGreatDoor
namespace Go.Proofs.YticanhidahkhfaaGreatDoor
open Go.RowKit
set_option linter.unusedVariables false
set_option linter.unusedSimpArgs false
set_option maxRecDepth 100000
def lsI (m : Int) (l : List Int) : Int := l.foldl (fun a z => min a z) m
def ls : List Int → Int
  | [] => 0
  | z :: l => lsI z l
theorem lsI_le (l : List Int) : ∀ m, lsI m l ≤ m ∧ ∀ z ∈ l, lsI m l ≤ z := by
  induction l with
  | nil => intro m; simp [lsI]
  | cons y l ih =>
    intro m
    obtain ⟨h1, h2⟩ := ih (min m y)
    have e : lsI m (y :: l) = lsI (min m y) l := rfl
    rw [e]
    refine ⟨by omega, fun z hz => ?_⟩
    rcases List.mem_cons.1 hz with rfl | hz
    · omega
    · exact h2 z hz
theorem lsI_mem (l : List Int) : ∀ m, lsI m l = m ∨ lsI m l ∈ l := by
  induction l with
  | nil => intro m; exact .inl rfl
  | cons y l ih =>
    intro m
    have e : lsI m (y :: l) = lsI (min m y) l := rfl
    rw [e]
    rcases ih (min m y) with h | h
    · rw [h]
      by_cases hm : m ≤ y
      · exact .inl (by omega)
      · exact .inr (by rw [show min m y = y by omega]; simp)
    · exact .inr (List.mem_cons_of_mem _ h)
theorem lsI_snoc (m z : Int) (l : List Int) : lsI m (l ++ [z]) = min (lsI m l) z := by simp [lsI]
theorem ls_step {l : List Int} {k : Nat} {z : Int} (hk : 0 < k) (h : l[k]? = some z) : ls (l.take (k + 1)) = min (ls (l.take k)) z := by
  have hl := (List.getElem?_eq_some_iff.1 h).1
  rw [List.take_add_one, h]
  obtain ⟨y, r, hr⟩ : ∃ y r, l.take k = y :: r := by
    cases hr : l.take k with
    | nil => have h2 := congrArg List.length hr; rw [List.length_take] at h2; simp only [List.length_nil] at h2; omega
    | cons y r => exact ⟨y, r, rfl⟩
  rw [hr]
  show lsI y (r ++ [z]) = min (lsI y r) z
  exact lsI_snoc y z r
theorem ls_first {l : List Int} {z : Int} (h : l[0]? = some z) : ls (l.take 1) = z := by
  cases l with
  | nil => simp at h
  | cons y r => simp at h; subst h; rfl
def lsF (z : Int) (l : List Int) (k : Nat) : Int := lsI z (l.take k)
theorem lsF_step {z x : Int} {l : List Int} {k : Nat} (h : l[k]? = some x) : lsF z l (k + 1) = min (lsF z l k) x := by
  unfold lsF
  rw [List.take_add_one, h]
  exact lsI_snoc _ _ _
theorem lsF_all {z : Int} {l : List Int} (h : l[0]? = some z) : lsF z l l.length = ls l := by
  unfold lsF
  rw [List.take_length]
  cases l with
  | nil => simp at h
  | cons y r =>
    simp at h
    subst h
    show lsI (min y y) r = lsI y r
    rw [Int.min_self]
theorem ls_le {l : List Int} : ∀ z ∈ l, ls l ≤ z := by
  cases l with
  | nil => intro z h; simp at h
  | cons y l =>
    intro z hz
    obtain ⟨h1, h2⟩ := lsI_le l y
    rcases List.mem_cons.1 hz with rfl | hz
    · exact h1
    · exact h2 z hz
theorem ls_mem {l : List Int} (h : l ≠ []) : ls l ∈ l := by
  cases l with
  | nil => exact absurd rfl h
  | cons y l =>
    rcases lsI_mem l y with h1 | h1
    · show lsI y l ∈ y :: l
      rw [h1]; simp
    · exact List.mem_cons_of_mem _ h1
theorem ls_eq {l : List Int} {m : Int} (h : m ∈ l) (hl : ∀ z ∈ l, m ≤ z) : ls l = m := by
  have h1 := ls_le m h
  have h2 := hl (ls l) (ls_mem (by intro e; subst e; simp at h))
  omega
theorem ls_in {l : List Int} (h : ∀ z ∈ l, In64 z) : In64 (ls l) := by
  by_cases he : l = []
  · subst he; simp [ls, In64]
  · exact h _ (ls_mem he)
def dfs (m : Int) (l : List Int) : List Nat := l.map fun z => (z - m).toNat
theorem dfs_length (m : Int) (l : List Int) : (dfs m l).length = l.length := by simp [dfs]
theorem dfs_lt {l : List Int} {m : Int} (h : ∀ z ∈ l, In64 z) (hm : In64 m) : ∀ a ∈ dfs m l, a < 18446744073709551616 := by
  intro a ha
  obtain ⟨z, hz, rfl⟩ := List.mem_map.1 ha
  have := h z hz
  unfold In64 at this hm
  omega
theorem dfs_at {l : List Int} {m z : Int} {k : Nat} (h : l[k]? = some z) : (dfs m l)[k]? = some (z - m).toNat := by unfold dfs; rw [List.getElem?_map, h]; rfl
theorem dfs_step {l : List Int} {m z : Int} {k : Nat} (h : l[k]? = some z) : (dfs m l).take (k + 1) = (dfs m l).take k ++ [(z - m).toNat] := take_snoc (dfs_at h)
theorem dfs_zero {l : List Int} (h : l ≠ []) : 0 ∈ dfs (ls l) l := List.mem_map.2 ⟨ls l, ls_mem h, by omega⟩
def ups (m : Int) (d : List Nat) : List Int := d.map fun a : Nat => m + (a : Int)
theorem ups_length (m : Int) (d : List Nat) : (ups m d).length = d.length := by simp [ups]
theorem ups_dfs {l : List Int} {m : Int} (h : ∀ z ∈ l, m ≤ z) : ups m (dfs m l) = l := by
  unfold ups dfs
  rw [List.map_map]
  conv => rhs; rw [← List.map_id l]
  refine List.map_congr_left fun z hz => ?_
  have := h z hz
  show m + ((z - m).toNat : Int) = z
  omega
theorem dfs_ups (m : Int) (d : List Nat) : dfs m (ups m d) = d := by
  unfold ups dfs
  rw [List.map_map]
  conv => rhs; rw [← List.map_id d]
  refine List.map_congr_left fun a _ => ?_
  show (m + (a : Int) - m).toNat = a
  omega
theorem ls_ups {m : Int} {d : List Nat} (h : 0 ∈ d) : ls (ups m d) = m := by
  refine ls_eq (List.mem_map.2 ⟨0, h, by omega⟩) fun z hz => ?_
  obtain ⟨a, _, rfl⟩ := List.mem_map.1 hz
  omega
theorem dfs_shift (m by_ : Int) (l : List Int) : dfs (m + by_) (l.map fun z => z + by_) = dfs m l := by
  unfold dfs
  rw [List.map_map]
  refine List.map_congr_left fun z _ => ?_
  show (z + by_ - (m + by_)).toNat = (z - m).toNat
  congr 1; omega
theorem lsI_shift (by_ : Int) (l : List Int) : ∀ m, lsI (m + by_) (l.map fun z => z + by_) = lsI m l + by_ := by
  induction l with
  | nil => intro m; rfl
  | cons y l ih =>
    intro m
    show lsI (min (m + by_) (y + by_)) (l.map fun z => z + by_) = lsI (min m y) l + by_
    rw [show min (m + by_) (y + by_) = min m y + by_ by omega, ih]
theorem ls_shift (by_ : Int) {l : List Int} (h : l ≠ []) : ls (l.map fun z => z + by_) = ls l + by_ := by
  cases l with
  | nil => exact absurd rfl h
  | cons y l => exact lsI_shift by_ l y
def foB (l : List Int) : List Nat := [wd (dfs (ls l) l)] ++ packB (wd (dfs (ls l) l)) (dfs (ls l) l)
def fo (l : List Int) : List Nat := if l = [] then [] else vb (zg (ls l)) ++ foB l
theorem fo_nil : fo [] = [] := rfl
theorem fo_ne {l : List Int} (h : l ≠ []) : fo l = vb (zg (ls l)) ++ foB l := by unfold fo; rw [if_neg h]
theorem foB_shift (by_ : Int) {l : List Int} (h : l ≠ []) : foB (l.map fun z => z + by_) = foB l := by
  unfold foB
  rw [ls_shift by_ h, dfs_shift]
theorem wd_dfs {l : List Int} (h : ∀ z ∈ l, In64 z) : wd (dfs (ls l) l) ≤ 64 := (wd_le _ 64).2 (by intro a ha; have := dfs_lt h (ls_in h) a ha; omega)
theorem foB_length {l : List Int} (h : ∀ z ∈ l, In64 z) (hn : l.length ≤ 65536) : (foB l).length ≤ 524290 := by
  unfold foB
  rw [List.length_append, packB_length, dfs_length]
  have h1 := wd_dfs h
  have h2 : l.length * wd (dfs (ls l) l) ≤ 65536 * 64 := Nat.mul_le_mul hn h1
  simp only [List.length_singleton]
  unfold sz; omega
theorem fo_length {l : List Int} (h : ∀ z ∈ l, In64 z) (hn : l.length ≤ 65536) : (fo l).length ≤ 524300 := by
  unfold fo
  split
  · simp
  · have h1 := foB_length h hn
    have h2 := (vb_length (zg (ls l))).2
    rw [List.length_append]; omega
theorem fo_byte {l : List Int} (h : ∀ z ∈ l, In64 z) : ∀ b ∈ fo l, b < 256 := by
  intro b hb
  unfold fo at hb
  split at hb
  · simp at hb
  · rcases List.mem_append.1 hb with hb | hb
    · exact vb_byte _ (zg_int (ls_in h)).2 b hb
    · unfold foB at hb
      have := wd_dfs h
      rcases List.mem_append.1 hb with hb | hb
      · simp at hb; omega
      · exact packB_byte _ _ b hb
end Go.Proofs.YticanhidahkhfaaGreatDoor
