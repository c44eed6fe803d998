/- Plain facts on lists of all texts that are there: rising, each once; the places in them; the form of texts. No program, no condition. -/
import Derived.Test.YtkopoepoinkpeaaDoorPlPlain
import Derived.Test.YtkopoepoinkpeaaDoorTxOrd
namespace Go.Proofs.YtkopoepoinkpeaaDoor
open Go.RowKit
set_option linter.unusedVariables false
set_option linter.unusedSimpArgs false
set_option maxRecDepth 100000

/-- It rises, each text once. -/
def RiseT (L : List Tx) : Prop := L.Pairwise tlt
/-- Where a text stands in what rises, or would. -/
def whT : List Tx → Tx → Nat
  | [], _ => 0
  | y :: l, s => if tlt y s then whT l s + 1 else 0
theorem whT_le (L : List Tx) (s : Tx) : whT L s ≤ L.length := by
  induction L with
  | nil => simp [whT]
  | cons y l ih => simp only [whT]; split <;> simp only [List.length_cons] <;> omega
theorem whT_below (L : List Tx) (s : Tx) : ∀ (j : Nat) (y : Tx), j < whT L s → L[j]? = some y → tlt y s := by
  induction L with
  | nil => intro j y h; simp [whT] at h
  | cons x l ih =>
    intro j y h hy
    simp only [whT] at h
    split at h
    · rename_i hx
      cases j with
      | zero => simp at hy; subst hy; exact hx
      | succ j => simp at hy; exact ih j y (by omega) hy
    · omega
theorem whT_at (L : List Tx) (s : Tx) {y : Tx} (h : L[whT L s]? = some y) : ¬ tlt y s := by
  induction L with
  | nil => simp at h
  | cons x l ih =>
    simp only [whT] at h
    split at h
    · rename_i hx; simp at h; exact ih h
    · rename_i hx; simp at h; subst h; exact hx
/-- The place is told by what stands below it and at it. -/
theorem whT_of {L : List Tx} {s : Tx} {k : Nat} (hk : k ≤ L.length) (h1 : ∀ (j : Nat) (y : Tx), j < k → L[j]? = some y → tlt y s) (h2 : ∀ y, L[k]? = some y → ¬ tlt y s) : whT L s = k := by
  rcases Nat.lt_trichotomy (whT L s) k with h | h | h
  · have hl : whT L s < L.length := by omega
    have hy : L[whT L s]? = some L[whT L s] := List.getElem?_eq_getElem hl
    exact absurd (h1 _ _ h hy) (whT_at L s hy)
  · exact h
  · have hl : k < L.length := by have := whT_le L s; omega
    have hy : L[k]? = some L[k] := List.getElem?_eq_getElem hl
    exact absurd (whT_below L s k _ h hy) (h2 _ hy)
/-- A text, put in its place in what rises. -/
def insT (z : Tx) : List Tx → List Tx
  | [] => [z]
  | y :: l => if tlt y z then y :: insT z l else if y = z then y :: l else z :: y :: l
theorem whT_more {y : Tx} {l : List Tx} {z : Tx} (h : tlt y z) : whT (y :: l) z = whT l z + 1 := by simp [whT, h]
theorem whT_here {y : Tx} {l : List Tx} {z : Tx} (h : ¬ tlt y z) : whT (y :: l) z = 0 := by simp [whT, h]
theorem insT_old {z : Tx} : ∀ {L : List Tx}, L[whT L z]? = some z → insT z L = L := by
  intro L
  induction L with
  | nil => intro h; simp at h
  | cons y l ih =>
    intro h
    by_cases hy : tlt y z
    · rw [whT_more hy, List.getElem?_cons_succ] at h
      simp only [insT]
      rw [if_pos hy, ih h]
    · rw [whT_here hy] at h
      simp at h
      simp only [insT]
      rw [if_neg hy, if_pos h]
theorem insT_new {z : Tx} : ∀ {L : List Tx}, L[whT L z]? ≠ some z → insT z L = L.take (whT L z) ++ z :: L.drop (whT L z) := by
  intro L
  induction L with
  | nil => intro h; simp [insT]
  | cons y l ih =>
    intro h
    by_cases hy : tlt y z
    · rw [whT_more hy, List.getElem?_cons_succ] at h
      rw [whT_more hy]
      simp only [insT]
      rw [if_pos hy, ih h]
      simp
    · rw [whT_here hy] at h ⊢
      simp at h
      simp only [insT]
      rw [if_neg hy, if_neg h]
      simp
/-- The list of all texts that are there. -/
def lstT (l : List Tx) : List Tx := l.foldl (fun o z => insT z o) []
theorem insT_mem (z x : Tx) (L : List Tx) : x ∈ insT z L ↔ x = z ∨ x ∈ L := by
  induction L with
  | nil => simp [insT]
  | cons y L ih =>
    simp only [insT]
    split
    · rw [List.mem_cons, ih, List.mem_cons]
      constructor
      · rintro (h | h | h) <;> simp [h]
      · rintro (h | h | h) <;> simp [h]
    · split
      · rename_i h1 h2
        subst h2
        rw [List.mem_cons]
        constructor
        · rintro (h | h) <;> simp [h]
        · rintro (h | h | h) <;> simp [h]
      · rw [List.mem_cons]
theorem insT_rise (z : Tx) (L : List Tx) (h : RiseT L) : RiseT (insT z L) := by
  induction L with
  | nil => simp [insT, RiseT]
  | cons y L ih =>
    obtain ⟨h1, h2⟩ := List.pairwise_cons.1 h
    simp only [insT]
    split
    · rename_i hy
      refine List.pairwise_cons.2 ⟨fun x hx => ?_, ih h2⟩
      rcases (insT_mem z x L).1 hx with rfl | hx
      · exact hy
      · exact h1 x hx
    · split
      · exact h
      · rename_i hy hyz
        have hzy := tlt_total hy hyz
        refine List.pairwise_cons.2 ⟨fun x hx => ?_, h⟩
        rcases List.mem_cons.1 hx with rfl | hx
        · exact hzy
        · exact tlt_trans hzy (h1 x hx)
theorem foldT_mem (l : List Tx) : ∀ (o : List Tx) (x : Tx), x ∈ l.foldl (fun o z => insT z o) o ↔ x ∈ l ∨ x ∈ o := by
  induction l with
  | nil => intro o x; simp
  | cons z l ih =>
    intro o x
    rw [List.foldl_cons, ih, insT_mem, List.mem_cons]
    constructor
    · rintro (h | h | h) <;> simp [h]
    · rintro ((h | h) | h) <;> simp [h]
theorem foldT_rise (l : List Tx) : ∀ o, RiseT o → RiseT (l.foldl (fun o z => insT z o) o) := by
  induction l with
  | nil => intro o h; exact h
  | cons z l ih => intro o h; exact ih _ (insT_rise z o h)
theorem lstT_mem (l : List Tx) (x : Tx) : x ∈ lstT l ↔ x ∈ l := by unfold lstT; rw [foldT_mem]; simp
theorem lstT_rise (l : List Tx) : RiseT (lstT l) := foldT_rise l [] List.Pairwise.nil
theorem riseT_ext : ∀ (a b : List Tx), RiseT a → RiseT b → (∀ x, x ∈ a ↔ x ∈ b) → a = b := by
  intro a
  induction a with
  | nil =>
    intro b _ _ h
    cases b with
    | nil => rfl
    | cons y b => have := (h y).2 (by simp); simp at this
  | cons x a ih =>
    intro b ha hb h
    cases b with
    | nil => have := (h x).1 (by simp); simp at this
    | cons y b =>
      obtain ⟨a1, a2⟩ := List.pairwise_cons.1 ha
      obtain ⟨b1, b2⟩ := List.pairwise_cons.1 hb
      have exy : x = y := by
        have h1 := (h x).1 (by simp)
        have h2 := (h y).2 (by simp)
        rcases List.mem_cons.1 h1 with h1 | h1
        · exact h1
        · rcases List.mem_cons.1 h2 with h2 | h2
          · exact h2.symm
          · exact absurd (b1 x h1) (tlt_asymm (a1 y h2))
      subst exy
      congr 1
      refine ih b a2 b2 fun z => ?_
      constructor
      · intro hz
        rcases List.mem_cons.1 ((h z).1 (List.mem_cons_of_mem _ hz)) with rfl | h1
        · exact absurd (a1 z hz) (tlt_irrefl z)
        · exact h1
      · intro hz
        rcases List.mem_cons.1 ((h z).2 (List.mem_cons_of_mem _ hz)) with rfl | h1
        · exact absurd (b1 z hz) (tlt_irrefl z)
        · exact h1
theorem insT_length (z : Tx) (L : List Tx) : (insT z L).length ≤ L.length + 1 := by
  induction L with
  | nil => simp [insT]
  | cons y L ih =>
    simp only [insT]
    split
    · simp only [List.length_cons]; omega
    · split <;> simp
theorem foldT_length (l : List Tx) : ∀ o : List Tx, (l.foldl (fun o z => insT z o) o).length ≤ o.length + l.length := by
  induction l with
  | nil => intro o; simp
  | cons z l ih =>
    intro o
    have h1 := ih (insT z o)
    have h2 := insT_length z o
    rw [List.foldl_cons, List.length_cons]; omega
theorem lstT_length (l : List Tx) : (lstT l).length ≤ l.length := by have := foldT_length l []; simp at this; exact this
theorem lstT_same {l m : List Tx} (h : ∀ x, x ∈ l ↔ x ∈ m) : lstT l = lstT m := riseT_ext _ _ (lstT_rise l) (lstT_rise m) fun x => by rw [lstT_mem, lstT_mem, h]
theorem lstT_of_rise {L : List Tx} (h : RiseT L) : lstT L = L := riseT_ext _ _ (lstT_rise L) h fun x => lstT_mem L x
theorem lstT_nil : lstT [] = [] := rfl
theorem lstT_snoc (l : List Tx) (z : Tx) : lstT (l ++ [z]) = insT z (lstT l) := by simp [lstT]
/-! Places. -/
theorem riseT_inj {L : List Tx} (h : RiseT L) {i j : Nat} {z : Tx} (hi : L[i]? = some z) (hj : L[j]? = some z) : i = j := by
  obtain ⟨hi1, hi2⟩ := List.getElem?_eq_some_iff.1 hi
  obtain ⟨hj1, hj2⟩ := List.getElem?_eq_some_iff.1 hj
  have hp := List.pairwise_iff_getElem.1 h
  rcases Nat.lt_trichotomy i j with hlt | he | hlt
  · have := hp i j hi1 hj1 hlt; rw [hi2, hj2] at this; exact absurd this (tlt_irrefl z)
  · exact he
  · have := hp j i hj1 hi1 hlt; rw [hi2, hj2] at this; exact absurd this (tlt_irrefl z)
theorem whT_is {L : List Tx} (h : RiseT L) {i : Nat} {z : Tx} (hi : L[i]? = some z) : whT L z = i := by
  obtain ⟨hi1, hi2⟩ := List.getElem?_eq_some_iff.1 hi
  refine whT_of (by omega) (fun j y hj hy => ?_) (fun y hy => ?_)
  · obtain ⟨hj1, hj2⟩ := List.getElem?_eq_some_iff.1 hy
    have := List.pairwise_iff_getElem.1 h j i hj1 hi1 hj
    rwa [hi2, hj2] at this
  · rw [hi] at hy; injection hy with hy; subst hy; exact tlt_irrefl _
theorem whT_mem {L : List Tx} (h : RiseT L) {z : Tx} (hz : z ∈ L) : L[whT L z]? = some z ∧ whT L z < L.length := by
  obtain ⟨i, hi⟩ := List.getElem?_of_mem hz
  rw [whT_is h hi]
  exact ⟨hi, (List.getElem?_eq_some_iff.1 hi).1⟩
theorem whT_found (L : List Tx) (z : Tx) (h : RiseT L) : L[whT L z]? = some z ↔ z ∈ L := ⟨fun h => List.mem_of_getElem? h, fun hz => (whT_mem h hz).1⟩
/-- The place of each text in the list of all. -/
def plcT (l : List Tx) : List Nat := l.map (whT (lstT l))
theorem plcT_length (l : List Tx) : (plcT l).length = l.length := by simp [plcT]
theorem plcT_lt (l : List Tx) : ∀ a ∈ plcT l, a < (lstT l).length := by
  intro a h
  obtain ⟨z, hz, rfl⟩ := List.mem_map.1 h
  exact (whT_mem (lstT_rise l) ((lstT_mem l z).2 hz)).2
theorem plcT_all (l : List Tx) (i : Nat) (h : i < (lstT l).length) : i ∈ plcT l := by
  have hi : (lstT l)[i]? = some (lstT l)[i] := List.getElem?_eq_getElem h
  exact List.mem_map.2 ⟨_, (lstT_mem l _).1 (List.getElem_mem h), whT_is (lstT_rise l) hi⟩
theorem wd_plcT (l : List Tx) : wd (plcT l) = blen ((lstT l).length - 1) := by
  have h1 : wd (plcT l) ≤ blen ((lstT l).length - 1) := by
    rw [wd_le]
    intro a ha
    have hlt := plcT_lt l a ha
    have h2 := (blen_le ((lstT l).length - 1) _).1 (Nat.le_refl _)
    omega
  have h2 : blen ((lstT l).length - 1) ≤ wd (plcT l) := by
    rw [blen_le]
    rcases Nat.eq_zero_or_pos (lstT l).length with h0 | h0
    · rw [h0]; exact Nat.two_pow_pos _
    · exact (wd_le (plcT l) _).1 (Nat.le_refl _) _ (plcT_all l _ (by omega))
  omega
/-! The form. -/
/-- A text's bytes as numbers. -/
def nb (s : Tx) : List Nat := s.map UInt8.toNat
theorem nb_length (s : Tx) : (nb s).length = s.length := by simp [nb]
theorem nb_byte (s : Tx) : ∀ b ∈ nb s, b < 256 := by
  intro b h
  obtain ⟨x, _, rfl⟩ := List.mem_map.1 h
  exact x.toNat_lt
theorem nb_inj {s t : Tx} (h : nb s = nb t) : s = t := by
  have h2 := congrArg (List.map UInt8.ofNat) h
  unfold nb at h2
  rw [List.map_map, List.map_map] at h2
  have e : (UInt8.ofNat ∘ UInt8.toNat) = id := by funext x; simp
  rw [e, List.map_id, List.map_id] at h2
  exact h2
/-- The text of these bytes. -/
def tb (l : List Nat) : Tx := l.map UInt8.ofNat
theorem tb_nb (s : Tx) : tb (nb s) = s := by
  unfold tb nb
  rw [List.map_map]
  have e : (UInt8.ofNat ∘ UInt8.toNat) = id := by funext x; simp
  rw [e, List.map_id]
theorem nb_tb {l : List Nat} (h : ∀ b ∈ l, b < 256) : nb (tb l) = l := by
  unfold tb nb
  rw [List.map_map]
  conv => rhs; rw [← List.map_id l]
  exact List.map_congr_left fun b hb => UInt8.toNat_ofNat_of_lt' (h b hb)
/-- A text behind its length. -/
def blbT (s : Tx) : List Nat := vb s.length ++ nb s
/-- Texts, each behind its length, one behind the other. -/
def blbs (L : List Tx) : List Nat := L.flatMap blbT
theorem blbs_append (a b : List Tx) : blbs (a ++ b) = blbs a ++ blbs b := by simp [blbs]
theorem blbs_one (a : Tx) : blbs [a] = blbT a := by simp [blbs]
theorem blbs_cons (a : Tx) (l : List Tx) : blbs (a :: l) = blbT a ++ blbs l := by simp [blbs]
theorem blbs_step {l : List Tx} {k : Nat} {a : Tx} (h : l[k]? = some a) : blbs (l.take (k + 1)) = blbs (l.take k) ++ blbT a := by rw [take_snoc h, blbs_append, blbs_one]
theorem blbT_length {s : Tx} : (blbT s).length ≤ s.length + 10 := by
  have := (vb_length s.length).2
  unfold blbT; rw [List.length_append, nb_length]; omega
theorem blbs_length (L : List Tx) (q : Nat) (h : ∀ s ∈ L, s.length ≤ q) : (blbs L).length ≤ (q + 10) * L.length := by
  induction L with
  | nil => simp [blbs]
  | cons a l ih =>
    have h1 := h a (by simp)
    have h2 := ih (fun s hs => h s (by simp [hs]))
    have h3 := blbT_length (s := a)
    rw [blbs_cons, List.length_append, List.length_cons, Nat.mul_add, Nat.mul_one]
    omega
theorem blbT_byte {s : Tx} (h : s.length < 18446744073709551616) : ∀ b ∈ blbT s, b < 256 := by
  intro b hb
  rcases List.mem_append.1 hb with hb | hb
  · exact vb_byte _ h b hb
  · exact nb_byte s b hb
theorem blbs_byte (L : List Tx) (h : ∀ s ∈ L, s.length < 18446744073709551616) : ∀ b ∈ blbs L, b < 256 := by
  intro b hb
  obtain ⟨a, ha, hb⟩ := List.mem_flatMap.1 hb
  exact blbT_byte (h a ha) b hb
/-- The head of the form: the list. -/
def hdT (L : List Tx) : List Nat := vb L.length ++ blbs L
/-- The form. -/
def txf (l : List Tx) : List Nat := hdT (lstT l) ++ [wd (plcT l)] ++ packB (wd (plcT l)) (plcT l)
theorem txf_flat (l : List Tx) : txf l = [hdT (lstT l), [wd (plcT l)], packB (wd (plcT l)) (plcT l)].flatten := by simp [txf]
theorem wd_plcT_le (l : List Tx) (h : l.length ≤ 65536) : wd (plcT l) ≤ 16 := by
  rw [wd_plcT, blen_le]
  have := lstT_length l
  omega
theorem lstT_long {l : List Tx} {q : Nat} (h : ∀ s ∈ l, s.length ≤ q) : ∀ s ∈ lstT l, s.length ≤ q := fun s hs => h s ((lstT_mem l s).1 hs)
theorem txf_parts (l : List Tx) (h : l.length ≤ 65536) (hq : ∀ s ∈ l, s.length ≤ 65536) : (hdT (lstT l)).length ≤ 4295622666 ∧ (packB (wd (plcT l)) (plcT l)).length ≤ 131073 := by
  have h1 := lstT_length l
  have h2 := blbs_length (lstT l) 65536 (lstT_long hq)
  have h0 := (vb_length (lstT l).length).2
  refine ⟨?_, ?_⟩
  · unfold hdT
    rw [List.length_append]
    have : (65536 + 10) * (lstT l).length ≤ (65536 + 10) * 65536 := Nat.mul_le_mul_left _ (by omega)
    omega
  · rw [packB_length, plcT_length]
    have h3 := wd_plcT_le l h
    have h4 : l.length * wd (plcT l) ≤ 65536 * 16 := Nat.mul_le_mul h h3
    unfold sz; omega
theorem txf_length (l : List Tx) (h : l.length ≤ 65536) (hq : ∀ s ∈ l, s.length ≤ 65536) : (txf l).length ≤ 4295753740 := by
  obtain ⟨h1, h2⟩ := txf_parts l h hq
  unfold txf; rw [List.length_append, List.length_append, List.length_singleton]; omega
theorem txf_byte (l : List Tx) (h : l.length ≤ 65536) (hq : ∀ s ∈ l, s.length ≤ 65536) : ∀ b ∈ txf l, b < 256 := by
  intro b hb
  have hw := wd_plcT_le l h
  have hl := lstT_length l
  unfold txf at hb
  rcases List.mem_append.1 hb with hb | hb
  · rcases List.mem_append.1 hb with hb | hb
    · unfold hdT at hb
      rcases List.mem_append.1 hb with hb | hb
      · exact vb_byte _ (by omega) b hb
      · exact blbs_byte _ (fun s hs => by have := lstT_long hq s hs; omega) b hb
    · simp at hb; omega
  · exact packB_byte _ _ b hb
end Go.Proofs.YtkopoepoinkpeaaDoor
