import Derived.Test.YtpgdlmnhomnblaaGreatDoorJ4
import Derived.Test.YtpgdlmnhomnblaaGreatDoorJ5
import Derived.Laws.Rows
import Derived.Test.YtpgdlmnhomnblaaGreatDoorJ1
import Derived.Deep.RegionWith
import Derived.BigGuard
import Derived.Lib.QuietBelow
namespace Go.Proofs.YtpgdlmnhomnblaaGreatDoor
open Go.RowKit
set_option linter.unusedVariables false
set_option linter.unusedSimpArgs false
set_option maxRecDepth 100000
def RiseT (L : List Tx) : Prop := L.Pairwise tlt
def whT : List Tx → Tx → Nat
  | [], _ => 0
  | y :: l, s => if tlt y s then whT l s + 1 else 0
theorem whT_le (L : List Tx) (s : Tx) : whT L s ≤ L.length := by
  induction L with
  | nil => simp [whT]
  | cons y l ih => simp only [whT]; split <;> simp only [List.length_cons] <;> omega
theorem whT_below (L : List Tx) (s : Tx) : ∀ (j : Nat) (y : Tx), j < whT L s → L[j]? = some y → tlt y s := by
  induction L with
  | nil => intro j y h; simp [whT] at h
  | cons x l ih =>
    intro j y h hy
    simp only [whT] at h
    split at h
    · rename_i hx
      cases j with
      | zero => simp at hy; subst hy; exact hx
      | succ j => simp at hy; exact ih j y (by omega) hy
    · omega
theorem whT_at (L : List Tx) (s : Tx) {y : Tx} (h : L[whT L s]? = some y) : ¬ tlt y s := by
  induction L with
  | nil => simp at h
  | cons x l ih =>
    simp only [whT] at h
    split at h
    · rename_i hx; simp at h; exact ih h
    · rename_i hx; simp at h; subst h; exact hx
theorem whT_of {L : List Tx} {s : Tx} {k : Nat} (hk : k ≤ L.length) (h1 : ∀ (j : Nat) (y : Tx), j < k → L[j]? = some y → tlt y s) (h2 : ∀ y, L[k]? = some y → ¬ tlt y s) : whT L s = k := by
  rcases Nat.lt_trichotomy (whT L s) k with h | h | h
  · have hl : whT L s < L.length := by omega
    have hy : L[whT L s]? = some L[whT L s] := List.getElem?_eq_getElem hl
    exact absurd (h1 _ _ h hy) (whT_at L s hy)
  · exact h
  · have hl : k < L.length := by have := whT_le L s; omega
    have hy : L[k]? = some L[k] := List.getElem?_eq_getElem hl
    exact absurd (whT_below L s k _ h hy) (h2 _ hy)
def insT (z : Tx) : List Tx → List Tx
  | [] => [z]
  | y :: l => if tlt y z then y :: insT z l else if y = z then y :: l else z :: y :: l
theorem whT_more {y : Tx} {l : List Tx} {z : Tx} (h : tlt y z) : whT (y :: l) z = whT l z + 1 := by simp [whT, h]
theorem whT_here {y : Tx} {l : List Tx} {z : Tx} (h : ¬ tlt y z) : whT (y :: l) z = 0 := by simp [whT, h]
theorem insT_old {z : Tx} : ∀ {L : List Tx}, L[whT L z]? = some z → insT z L = L := by
  intro L
  induction L with
  | nil => intro h; simp at h
  | cons y l ih =>
    intro h
    by_cases hy : tlt y z
    · rw [whT_more hy, List.getElem?_cons_succ] at h
      simp only [insT]
      rw [if_pos hy, ih h]
    · rw [whT_here hy] at h
      simp at h
      simp only [insT]
      rw [if_neg hy, if_pos h]
theorem insT_new {z : Tx} : ∀ {L : List Tx}, L[whT L z]? ≠ some z → insT z L = L.take (whT L z) ++ z :: L.drop (whT L z) := by
  intro L
  induction L with
  | nil => intro h; simp [insT]
  | cons y l ih =>
    intro h
    by_cases hy : tlt y z
    · rw [whT_more hy, List.getElem?_cons_succ] at h
      rw [whT_more hy]
      simp only [insT]
      rw [if_pos hy, ih h]
      simp
    · rw [whT_here hy] at h ⊢
      simp at h
      simp only [insT]
      rw [if_neg hy, if_neg h]
      simp
def lstT (l : List Tx) : List Tx := l.foldl (fun o z => insT z o) []
theorem insT_mem (z x : Tx) (L : List Tx) : x ∈ insT z L ↔ x = z ∨ x ∈ L := by
  induction L with
  | nil => simp [insT]
  | cons y L ih =>
    simp only [insT]
    split
    · rw [List.mem_cons, ih, List.mem_cons]
      constructor
      · rintro (h | h | h) <;> simp [h]
      · rintro (h | h | h) <;> simp [h]
    · split
      · rename_i h1 h2
        subst h2
        rw [List.mem_cons]
        constructor
        · rintro (h | h) <;> simp [h]
        · rintro (h | h | h) <;> simp [h]
      · rw [List.mem_cons]
theorem insT_rise (z : Tx) (L : List Tx) (h : RiseT L) : RiseT (insT z L) := by
  induction L with
  | nil => simp [insT, RiseT]
  | cons y L ih =>
    obtain ⟨h1, h2⟩ := List.pairwise_cons.1 h
    simp only [insT]
    split
    · rename_i hy
      refine List.pairwise_cons.2 ⟨fun x hx => ?_, ih h2⟩
      rcases (insT_mem z x L).1 hx with rfl | hx
      · exact hy
      · exact h1 x hx
    · split
      · exact h
      · rename_i hy hyz
        have hzy := tlt_total hy hyz
        refine List.pairwise_cons.2 ⟨fun x hx => ?_, h⟩
        rcases List.mem_cons.1 hx with rfl | hx
        · exact hzy
        · exact tlt_trans hzy (h1 x hx)
theorem foldT_mem (l : List Tx) : ∀ (o : List Tx) (x : Tx), x ∈ l.foldl (fun o z => insT z o) o ↔ x ∈ l ∨ x ∈ o := by
  induction l with
  | nil => intro o x; simp
  | cons z l ih =>
    intro o x
    rw [List.foldl_cons, ih, insT_mem, List.mem_cons]
    constructor
    · rintro (h | h | h) <;> simp [h]
    · rintro ((h | h) | h) <;> simp [h]
theorem foldT_rise (l : List Tx) : ∀ o, RiseT o → RiseT (l.foldl (fun o z => insT z o) o) := by
  induction l with
  | nil => intro o h; exact h
  | cons z l ih => intro o h; exact ih _ (insT_rise z o h)
theorem lstT_mem (l : List Tx) (x : Tx) : x ∈ lstT l ↔ x ∈ l := by unfold lstT; rw [foldT_mem]; simp
theorem lstT_rise (l : List Tx) : RiseT (lstT l) := foldT_rise l [] List.Pairwise.nil
theorem riseT_ext : ∀ (a b : List Tx), RiseT a → RiseT b → (∀ x, x ∈ a ↔ x ∈ b) → a = b := by
  intro a
  induction a with
  | nil =>
    intro b _ _ h
    cases b with
    | nil => rfl
    | cons y b => have := (h y).2 (by simp); simp at this
  | cons x a ih =>
    intro b ha hb h
    cases b with
    | nil => have := (h x).1 (by simp); simp at this
    | cons y b =>
      obtain ⟨a1, a2⟩ := List.pairwise_cons.1 ha
      obtain ⟨b1, b2⟩ := List.pairwise_cons.1 hb
      have exy : x = y := by
        have h1 := (h x).1 (by simp)
        have h2 := (h y).2 (by simp)
        rcases List.mem_cons.1 h1 with h1 | h1
        · exact h1
        · rcases List.mem_cons.1 h2 with h2 | h2
          · exact h2.symm
          · exact absurd (b1 x h1) (tlt_asymm (a1 y h2))
      subst exy
      congr 1
      refine ih b a2 b2 fun z => ?_
      constructor
      · intro hz
        rcases List.mem_cons.1 ((h z).1 (List.mem_cons_of_mem _ hz)) with rfl | h1
        · exact absurd (a1 z hz) (tlt_irrefl z)
        · exact h1
      · intro hz
        rcases List.mem_cons.1 ((h z).2 (List.mem_cons_of_mem _ hz)) with rfl | h1
        · exact absurd (b1 z hz) (tlt_irrefl z)
        · exact h1
theorem insT_length (z : Tx) (L : List Tx) : (insT z L).length ≤ L.length + 1 := by
  induction L with
  | nil => simp [insT]
  | cons y L ih =>
    simp only [insT]
    split
    · simp only [List.length_cons]; omega
    · split <;> simp
theorem foldT_length (l : List Tx) : ∀ o : List Tx, (l.foldl (fun o z => insT z o) o).length ≤ o.length + l.length := by
  induction l with
  | nil => intro o; simp
  | cons z l ih =>
    intro o
    have h1 := ih (insT z o)
    have h2 := insT_length z o
    rw [List.foldl_cons, List.length_cons]; omega
theorem lstT_length (l : List Tx) : (lstT l).length ≤ l.length := by have := foldT_length l []; simp at this; exact this
theorem lstT_snoc (l : List Tx) (z : Tx) : lstT (l ++ [z]) = insT z (lstT l) := by simp [lstT]
theorem whT_is {L : List Tx} (h : RiseT L) {i : Nat} {z : Tx} (hi : L[i]? = some z) : whT L z = i := by
  obtain ⟨hi1, hi2⟩ := List.getElem?_eq_some_iff.1 hi
  refine whT_of (by omega) (fun j y hj hy => ?_) (fun y hy => ?_)
  · obtain ⟨hj1, hj2⟩ := List.getElem?_eq_some_iff.1 hy
    have := List.pairwise_iff_getElem.1 h j i hj1 hi1 hj
    rwa [hi2, hj2] at this
  · rw [hi] at hy; injection hy with hy; subst hy; exact tlt_irrefl _
theorem whT_mem {L : List Tx} (h : RiseT L) {z : Tx} (hz : z ∈ L) : L[whT L z]? = some z ∧ whT L z < L.length := by
  obtain ⟨i, hi⟩ := List.getElem?_of_mem hz
  rw [whT_is h hi]
  exact ⟨hi, (List.getElem?_eq_some_iff.1 hi).1⟩
def plcT (l : List Tx) : List Nat := l.map (whT (lstT l))
theorem plcT_length (l : List Tx) : (plcT l).length = l.length := by simp [plcT]
theorem plcT_lt (l : List Tx) : ∀ a ∈ plcT l, a < (lstT l).length := by
  intro a h
  obtain ⟨z, hz, rfl⟩ := List.mem_map.1 h
  exact (whT_mem (lstT_rise l) ((lstT_mem l z).2 hz)).2
theorem plcT_all (l : List Tx) (i : Nat) (h : i < (lstT l).length) : i ∈ plcT l := by
  have hi : (lstT l)[i]? = some (lstT l)[i] := List.getElem?_eq_getElem h
  exact List.mem_map.2 ⟨_, (lstT_mem l _).1 (List.getElem_mem h), whT_is (lstT_rise l) hi⟩
theorem wd_plcT (l : List Tx) : wd (plcT l) = blen ((lstT l).length - 1) := by
  have h1 : wd (plcT l) ≤ blen ((lstT l).length - 1) := by
    rw [wd_le]
    intro a ha
    have hlt := plcT_lt l a ha
    have h2 := (blen_le ((lstT l).length - 1) _).1 (Nat.le_refl _)
    omega
  have h2 : blen ((lstT l).length - 1) ≤ wd (plcT l) := by
    rw [blen_le]
    rcases Nat.eq_zero_or_pos (lstT l).length with h0 | h0
    · rw [h0]; exact Nat.two_pow_pos _
    · exact (wd_le (plcT l) _).1 (Nat.le_refl _) _ (plcT_all l _ (by omega))
  omega
def nb (s : Tx) : List Nat := s.map UInt8.toNat
theorem nb_length (s : Tx) : (nb s).length = s.length := by simp [nb]
theorem nb_byte (s : Tx) : ∀ b ∈ nb s, b < 256 := by
  intro b h
  obtain ⟨x, _, rfl⟩ := List.mem_map.1 h
  exact x.toNat_lt
def tb (l : List Nat) : Tx := l.map UInt8.ofNat
def blbT (s : Tx) : List Nat := vb s.length ++ nb s
def blbs (L : List Tx) : List Nat := L.flatMap blbT
theorem blbs_append (a b : List Tx) : blbs (a ++ b) = blbs a ++ blbs b := by simp [blbs]
theorem blbs_one (a : Tx) : blbs [a] = blbT a := by simp [blbs]
theorem blbs_cons (a : Tx) (l : List Tx) : blbs (a :: l) = blbT a ++ blbs l := by simp [blbs]
theorem blbs_step {l : List Tx} {k : Nat} {a : Tx} (h : l[k]? = some a) : blbs (l.take (k + 1)) = blbs (l.take k) ++ blbT a := by rw [take_snoc h, blbs_append, blbs_one]
theorem blbT_length {s : Tx} : (blbT s).length ≤ s.length + 10 := by
  have := (vb_length s.length).2
  unfold blbT; rw [List.length_append, nb_length]; omega
theorem blbs_length (L : List Tx) (q : Nat) (h : ∀ s ∈ L, s.length ≤ q) : (blbs L).length ≤ (q + 10) * L.length := by
  induction L with
  | nil => simp [blbs]
  | cons a l ih =>
    have h1 := h a (by simp)
    have h2 := ih (fun s hs => h s (by simp [hs]))
    have h3 := blbT_length (s := a)
    rw [blbs_cons, List.length_append, List.length_cons, Nat.mul_add, Nat.mul_one]
    omega
theorem blbT_byte {s : Tx} (h : s.length < 18446744073709551616) : ∀ b ∈ blbT s, b < 256 := by
  intro b hb
  rcases List.mem_append.1 hb with hb | hb
  · exact vb_byte _ h b hb
  · exact nb_byte s b hb
theorem blbs_byte (L : List Tx) (h : ∀ s ∈ L, s.length < 18446744073709551616) : ∀ b ∈ blbs L, b < 256 := by
  intro b hb
  obtain ⟨a, ha, hb⟩ := List.mem_flatMap.1 hb
  exact blbT_byte (h a ha) b hb
def hdT (L : List Tx) : List Nat := vb L.length ++ blbs L
def txf (l : List Tx) : List Nat := hdT (lstT l) ++ [wd (plcT l)] ++ packB (wd (plcT l)) (plcT l)
theorem wd_plcT_le (l : List Tx) (h : l.length ≤ 65536) : wd (plcT l) ≤ 16 := by
  rw [wd_plcT, blen_le]
  have := lstT_length l
  omega
theorem lstT_long {l : List Tx} {q : Nat} (h : ∀ s ∈ l, s.length ≤ q) : ∀ s ∈ lstT l, s.length ≤ q := fun s hs => h s ((lstT_mem l s).1 hs)
theorem txf_parts (l : List Tx) (h : l.length ≤ 65536) (hq : ∀ s ∈ l, s.length ≤ 65536) : (hdT (lstT l)).length ≤ 4295622666 ∧ (packB (wd (plcT l)) (plcT l)).length ≤ 131073 := by
  have h1 := lstT_length l
  have h2 := blbs_length (lstT l) 65536 (lstT_long hq)
  have h0 := (vb_length (lstT l).length).2
  refine ⟨?_, ?_⟩
  · unfold hdT
    rw [List.length_append]
    have : (65536 + 10) * (lstT l).length ≤ (65536 + 10) * 65536 := Nat.mul_le_mul_left _ (by omega)
    omega
  · rw [packB_length, plcT_length]
    have h3 := wd_plcT_le l h
    have h4 : l.length * wd (plcT l) ≤ 65536 * 16 := Nat.mul_le_mul h h3
    unfold sz; omega
theorem txf_length (l : List Tx) (h : l.length ≤ 65536) (hq : ∀ s ∈ l, s.length ≤ 65536) : (txf l).length ≤ 4295753740 := by
  obtain ⟨h1, h2⟩ := txf_parts l h hq
  unfold txf; rw [List.length_append, List.length_append, List.length_singleton]; omega
theorem txf_byte (l : List Tx) (h : l.length ≤ 65536) (hq : ∀ s ∈ l, s.length ≤ 65536) : ∀ b ∈ txf l, b < 256 := by
  intro b hb
  have hw := wd_plcT_le l h
  have hl := lstT_length l
  unfold txf at hb
  rcases List.mem_append.1 hb with hb | hb
  · rcases List.mem_append.1 hb with hb | hb
    · unfold hdT at hb
      rcases List.mem_append.1 hb with hb | hb
      · exact vb_byte _ (by omega) b hb
      · exact blbs_byte _ (fun s hs => by have := lstT_long hq s hs; omega) b hb
    · simp at hb; omega
  · exact packB_byte _ _ b hb
end Go.Proofs.YtpgdlmnhomnblaaGreatDoor
namespace Go.Proofs.YtpgdlmnhomnblaaGreatDoor
open Go.RowKit
set_option linter.unusedVariables false
set_option linter.unusedSimpArgs false
abbrev Vl := Int × Int × Tx
def rgt (kd : Int) (v : Vl) : Bool :=
  if v.1 = 0 then decide (v.2.1 = 0 ∧ v.2.2 = []) else decide (v.1 = kd ∧ (kd = 1 ∧ v.2.2 = [] ∨ kd = 2 ∧ v.2.1 = 0))
def ckE (kd : Int) (l : List Vl) : Int :=
  if 65536 < l.length then 12 else if ∃ v ∈ l, 65536 < v.2.2.length then 12 else if ∃ v ∈ l, rgt kd v = false then 11 else 0
theorem ckE_ok {kd : Int} {l : List Vl} (h : ckE kd l = 0) : l.length ≤ 65536 ∧ (∀ v ∈ l, v.2.2.length ≤ 65536) ∧ ∀ v ∈ l, rgt kd v = true := by
  unfold ckE at h
  split at h
  · cases h
  split at h
  · cases h
  split at h
  · cases h
  rename_i h1 h2 h3
  refine ⟨by omega, fun v hv => ?_, fun v hv => ?_⟩
  · exact Nat.le_of_not_lt fun e => h2 ⟨v, hv, e⟩
  · cases e : rgt kd v with
    | true => rfl
    | false => exact absurd ⟨v, hv, e⟩ h3
theorem ckE_of {kd : Int} {l : List Vl} (h1 : l.length ≤ 65536) (h2 : ∀ v ∈ l, v.2.2.length ≤ 65536) (h3 : ∀ v ∈ l, rgt kd v = true) : ckE kd l = 0 := by
  unfold ckE
  rw [if_neg (by omega), if_neg, if_neg]
  · rintro ⟨v, hv, e⟩; rw [h3 v hv] at e; cases e
  · rintro ⟨v, hv, e⟩; have := h2 v hv; omega
def nul (v : Vl) : Bool := decide (v.1 = 0)
def non (l : List Vl) (i : Nat) : Bool := ((l.map nul)[i]?).getD false
def ints (l : List Vl) : List Int := l.filterMap fun v => if v.1 = 1 then some v.2.1 else none
def wrds (l : List Vl) : List Tx := l.filterMap fun v => if v.1 = 2 then some v.2.2 else none
theorem ints_append (a b : List Vl) : ints (a ++ b) = ints a ++ ints b := by simp [ints]
theorem wrds_append (a b : List Vl) : wrds (a ++ b) = wrds a ++ wrds b := by simp [wrds]
theorem ints_one (v : Vl) : ints [v] = if v.1 = 1 then [v.2.1] else [] := by unfold ints; by_cases h : v.1 = 1 <;> simp [h]
theorem wrds_one (v : Vl) : wrds [v] = if v.1 = 2 then [v.2.2] else [] := by unfold wrds; by_cases h : v.1 = 2 <;> simp [h]
theorem ints_step {l : List Vl} {k : Nat} {v : Vl} (h : l[k]? = some v) : ints (l.take (k + 1)) = ints (l.take k) ++ if v.1 = 1 then [v.2.1] else [] := by rw [take_snoc h, ints_append, ints_one]
theorem wrds_step {l : List Vl} {k : Nat} {v : Vl} (h : l[k]? = some v) : wrds (l.take (k + 1)) = wrds (l.take k) ++ if v.1 = 2 then [v.2.2] else [] := by rw [take_snoc h, wrds_append, wrds_one]
theorem non_at {l : List Vl} {k : Nat} {v : Vl} (h : l[k]? = some v) : non l k = nul v := by unfold non; rw [List.getElem?_map, h]; rfl
theorem ints_length_le (l : List Vl) : (ints l).length ≤ l.length := List.length_filterMap_le _ _
theorem wrds_length_le (l : List Vl) : (wrds l).length ≤ l.length := List.length_filterMap_le _ _
theorem ints_in {l : List Vl} (h : ∀ v ∈ l, In64 v.2.1) : ∀ z ∈ ints l, In64 z := by
  intro z hz
  obtain ⟨v, hv, e⟩ := List.mem_filterMap.1 hz
  split at e
  · cases e; exact h v hv
  · cases e
theorem wrds_short {l : List Vl} {q : Nat} (h : ∀ v ∈ l, v.2.2.length ≤ q) : ∀ s ∈ wrds l, s.length ≤ q := by
  intro z hz
  obtain ⟨v, hv, e⟩ := List.mem_filterMap.1 hz
  split at e
  · cases e; exact h v hv
  · cases e
theorem rgt_kind {kd : Int} {v : Vl} (h : rgt kd v = true) : v = (0, 0, []) ∨ (v.1 = 1 ∧ kd = 1 ∧ v.2.2 = []) ∨ (v.1 = 2 ∧ kd = 2 ∧ v.2.1 = 0) := by
  obtain ⟨a, b, c⟩ := v
  unfold rgt at h
  split at h
  · rename_i e
    have h' := of_decide_eq_true h
    left
    simp at e h' ⊢
    exact ⟨e, h'⟩
  · obtain ⟨h1, h2 | h2⟩ := of_decide_eq_true h
    · exact .inr (.inl ⟨h1.trans h2.1, h2.1, h2.2⟩)
    · exact .inr (.inr ⟨h1.trans h2.1, h2.1, h2.2⟩)
def headB (l : List Vl) : List Nat := if cnt (non l) l.length = 0 then [0] else 1 :: setB (non l) l.length
def frm (way : Nat) (l : List Vl) : List Nat :=
  if way = 0 then pl (ints l) else if way = 1 then rf (runs (ints l)) else if way = 2 then dl (ints l) else if way = 3 then dc (ints l) else if way = 4 then fo (ints l) else txf (wrds l)
def lyB (l : List Vl) (way : Nat) : List Nat := headB l ++ [way] ++ frm way l
def ofW (way kd : Int) : Bool := decide (kd = 1 ∧ 0 ≤ way ∧ way ≤ 4 ∨ kd = 2 ∧ way = 5)
def bst (kd : Int) (l : List Vl) : Nat → Int
  | 0 => -1
  | k + 1 => if ofW (k : Int) kd = true ∧ (bst kd l k < 0 ∨ (lyB l k).length < (lyB l (bst kd l k).toNat).length) then (k : Int) else bst kd l k
def bestW (kd : Int) (l : List Vl) : Int := if (kd ≠ 1 ∧ kd ≠ 2) ∨ ckE kd l ≠ 0 then -1 else bst kd l 6
theorem bst_ok (kd : Int) (l : List Vl) : ∀ k : Nat, (bst kd l k = -1 ∧ ∀ j : Nat, j < k → ofW (j : Int) kd = false) ∨ (0 ≤ bst kd l k ∧ bst kd l k < k ∧ ofW (bst kd l k) kd = true ∧ ∀ j : Nat, j < k → ofW (j : Int) kd = true → (lyB l (bst kd l k).toNat).length ≤ (lyB l j).length) := by
  intro k
  induction k with
  | zero => left; exact ⟨rfl, fun j hj => absurd hj (by omega)⟩
  | succ k ih =>
    rw [bst]
    by_cases h : ofW (k : Int) kd = true ∧ (bst kd l k < 0 ∨ (lyB l k).length < (lyB l (bst kd l k).toNat).length)
    · rw [if_pos h]
      right
      refine ⟨by omega, by omega, h.1, fun j hj hw => ?_⟩
      rw [Int.toNat_natCast]
      by_cases e : j = k
      · subst e; exact Nat.le_refl _
      · rcases ih with ⟨h1, h2⟩ | ⟨h1, h2, h3, h4⟩
        · rw [h2 j (by omega)] at hw; cases hw
        · have := h4 j (by omega) hw
          rcases h.2 with h5 | h5 <;> omega
    · rw [if_neg h]
      rcases ih with ⟨h1, h2⟩ | ⟨h1, h2, h3, h4⟩
      · left
        refine ⟨h1, fun j hj => ?_⟩
        by_cases e : j = k
        · subst e
          cases hw : ofW (j : Int) kd with
          | false => rfl
          | true => exact absurd ⟨hw, .inl (by omega)⟩ h
        · exact h2 j (by omega)
      · right
        refine ⟨h1, by omega, h3, fun j hj hw => ?_⟩
        by_cases e : j = k
        · subst e
          exact Nat.le_of_not_lt fun h5 => h ⟨hw, .inr h5⟩
        · exact h4 j (by omega) hw
theorem ofW_range {way kd : Int} (h : ofW way kd = true) : 0 ≤ way ∧ way ≤ 5 ∧ (kd = 1 ∧ way ≤ 4 ∨ kd = 2 ∧ way = 5) := by
  have := of_decide_eq_true h
  omega
theorem bestW_ok {kd : Int} {l : List Vl} (hk : kd = 1 ∨ kd = 2) (h : ckE kd l = 0) : ofW (bestW kd l) kd = true ∧ ∀ way : Nat, ofW (way : Int) kd = true → (lyB l (bestW kd l).toNat).length ≤ (lyB l way).length := by
  unfold bestW
  rw [if_neg (by omega)]
  rcases bst_ok kd l 6 with ⟨_, h2⟩ | ⟨h1, h2, h3, h4⟩
  · exfalso
    rcases hk with rfl | rfl
    · have := h2 0 (by omega); cases this
    · have := h2 5 (by omega); cases this
  · exact ⟨h3, fun way hw => h4 way (by have := ofW_range hw; omega) hw⟩
def cpE (kd way : Int) (l : List Vl) : Int := if (kd ≠ 1 ∧ kd ≠ 2) ∨ (way ≠ -1 ∧ ofW way kd = false) then 1 else ckE kd l
def cpW (kd way : Int) (l : List Vl) : Nat := (if way = -1 then bestW kd l else way).toNat
def cpB (kd way : Int) (l : List Vl) : List Nat := if cpE kd way l = 0 then lyB l (cpW kd way l) else []
theorem cpE_ok {kd way : Int} {l : List Vl} (h : cpE kd way l = 0) : (kd = 1 ∨ kd = 2) ∧ ckE kd l = 0 ∧ ofW (cpW kd way l : Int) kd = true ∧ cpB kd way l = lyB l (cpW kd way l) := by
  have h0 := h
  unfold cpE at h
  split at h
  · cases h
  · rename_i h1
    have hk : kd = 1 ∨ kd = 2 := by omega
    refine ⟨hk, h, ?_, by unfold cpB; rw [if_pos h0]⟩
    unfold cpW
    by_cases e : way = -1
    · rw [if_pos e]
      have hb := (bestW_ok hk h).1
      have := ofW_range hb
      rw [Int.toNat_of_nonneg (by omega)]; exact hb
    · rw [if_neg e]
      have hw : ofW way kd = true := by
        cases hw : ofW way kd with
        | true => rfl
        | false => exact absurd (.inr ⟨e, hw⟩) h1
      have := ofW_range hw
      rw [Int.toNat_of_nonneg (by omega)]; exact hw
end Go.Proofs.YtpgdlmnhomnblaaGreatDoor
namespace Go.Proofs.YtpgdlmnhomnblaaGreatDoor
open Go.RowKit
def vW (v : Vl) : Value := .agg #[.int .i64 v.1, .int .i64 v.2.1, .string ⟨v.2.2.toArray⟩]
end Go.Proofs.YtpgdlmnhomnblaaGreatDoor
namespace Go.Proofs.YtpgdlmnhomnblaaGreatDoor
open Go.RowKit
set_option linter.unusedVariables false
set_option linter.unusedSimpArgs false
set_option maxRecDepth 100000
def isK (kd : Int) : Bool := decide (kd = 1 ∨ kd = 2)
theorem isK_yes {kd : Int} (h : kd = 1 ∨ kd = 2) : isK kd = true := by unfold isK; simp [h]
theorem isK_no {kd : Int} (h : ¬ (kd = 1 ∨ kd = 2)) : isK kd = false := by unfold isK; simp only [decide_eq_false_iff_not]; exact h
theorem isKind_any (kd : Int) (w : World) : Calls Tryz.prog 69 #[.int .i64 kd] w fun e w' => e = .returned (.bool (isK kd)) ∧ w = w' := by
  obtain ⟨r, hr⟩ : ∃ r, isK kd = r := ⟨_, rfl⟩
  rw [hr]
  unfold isK at hr
  go_enter Tryz.func69, Tryz.ntmps69
  by_cases h1 : kd = 1
  · subst h1
    obtain rfl : r = true := by rw [← hr]; simp
    clear hr
    go_wp2_with fail
    go_ret
    exact ⟨rfl, rfl⟩
  · by_cases h2 : kd = 2
    · subst h2
      obtain rfl : r = true := by rw [← hr]; simp
      clear hr
      go_wp2_with fail
      go_ret
      exact ⟨rfl, rfl⟩
    · obtain rfl : r = false := by rw [← hr]; simp [h1, h2]
      have q1 : (kd == 1) = false := by simp [h1]
      have q2 : (kd == 2) = false := by simp [h2]
      clear hr h1 h2
      go_wp2_with fail
      go_ret
      exact ⟨rfl, rfl⟩
theorem number_any (z : Int) (w : World) : Calls Tryz.prog 76 #[.int .i64 z] w fun e w' => e = .returned (vW (1, z, [])) ∧ Below w.heap.size w w' := by
  go_enter Tryz.func76, Tryz.ntmps76
  go_wp2_with fail
  exact bodyPost_ret (v := .agg #[.int .i64 1, .int .i64 z, .string ⟨#[]⟩]) (results_cell_row rfl _ _ _ _ _ _ _ (by rfl) (Blk.new w 51 #[.int .i64 1, .int .i64 z, .string ⟨#[]⟩]) Tryz.underlying51 rfl (by kernel_rfl)) rfl ⟨rfl, (Below.refl _ _).alloc (Nat.le_refl _) _⟩
theorem text_any (z : Tx) (w : World) : Calls Tryz.prog 89 #[.string ⟨z.toArray⟩] w fun e w' => e = .returned (vW (2, 0, z)) ∧ Below w.heap.size w w' := by
  go_enter Tryz.func89, Tryz.ntmps89
  go_wp2_with fail
  exact bodyPost_ret (v := .agg #[.int .i64 2, .int .i64 0, .string ⟨z.toArray⟩]) (results_cell_row rfl _ _ _ _ _ _ _ (by rfl) (Blk.new w 51 #[.int .i64 2, .int .i64 0, .string ⟨z.toArray⟩]) Tryz.underlying51 rfl (by kernel_rfl)) rfl ⟨rfl, (Below.refl _ _).alloc (Nat.le_refl _) _⟩
theorem numberOf_any (v : Vl) (w : World) : Calls Tryz.prog 75 #[vW v] w fun e w' => e = .returned (.int .i64 v.2.1) ∧ Below w.heap.size w w' := by
  obtain ⟨v0, v1, z⟩ := v
  unfold vW
  go_enter Tryz.func75, Tryz.ntmps75
  go_wp2_with fail
  go_ret
  exact ⟨rfl, by first | exact Below.refl _ _ | exact (Below.refl _ _).alloc (Nat.le_refl _) _⟩
theorem textOf_any (v : Vl) (w : World) : Calls Tryz.prog 88 #[vW v] w fun e w' => e = .returned (.string ⟨v.2.2.toArray⟩) ∧ Below w.heap.size w w' := by
  obtain ⟨v0, v1, z⟩ := v
  unfold vW
  go_enter Tryz.func88, Tryz.ntmps88
  go_wp2_with fail
  go_ret
  exact ⟨rfl, by first | exact Below.refl _ _ | exact (Below.refl _ _).alloc (Nat.le_refl _) _⟩
end Go.Proofs.YtpgdlmnhomnblaaGreatDoor
namespace Go.Proofs.YtpgdlmnhomnblaaGreatDoor
open Go.RowKit
set_option linter.unusedVariables false
set_option linter.unusedSimpArgs false
set_option maxRecDepth 100000
theorem New.opened {w w' : World} {xs : List Value} {n : Nat} {e : Ending} (h : New w xs n e w') : ∃ A c, e = .returned (.slice A n c) ∧ n ≤ c ∧ Reads w' w'.heap.size 1 A n xs ∧ Below w.heap.size w w' := by
  obtain ⟨v, rfl, hown, hb⟩ := h
  obtain ⟨A, c, rfl, hc, _, hr⟩ := own_slice hown
  exact ⟨A, c, rfl, hc, hr, hb⟩
theorem Reads.next {w w' : World} {size n : Nat} {A : Option Addr} {xs : List Value} (h : Reads w w.heap.size size A n xs) (hb : Below w.heap.size w w') : Reads w' w'.heap.size size A n xs :=
  (h.below hb).more hb.size
end Go.Proofs.YtpgdlmnhomnblaaGreatDoor
namespace Go.Proofs.YtpgdlmnhomnblaaGreatDoor
open Go.RowKit
set_option linter.unusedVariables false
set_option linter.unusedSimpArgs false
set_option maxRecDepth 100000
def Yields (B : Nat) (w : World) (f : FuncId) (args : Array Value) (v : Value) : Prop :=
  ∀ W, Below B w W → Calls Tryz.prog f args W fun e w' => e = .returned v ∧ Below B w w'
theorem below_drew {B : Nat} {w W : World} (h : Below B w W) : Below B w W.drew := ⟨h.os, h.tape, h.output, h.size, h.block⟩
theorem Yields.quiet {w : World} {f : FuncId} {args : Array Value} {v : Value} (h : Yields w.heap.size w f args v) (d : Nat) (os : Array Obj) :
    Calls Tryz.prog f args (Go.Sort.grow (redrawn w d) os) fun e w'' => e = .returned v ∧ ∃ p : Regrown, w'' = Go.Sort.grow (redrawn w p.d) p.os :=
  (h _ (below_regrown w d os)).mono fun _ _ ⟨he, hb⟩ => ⟨he, regrown_of_below hb⟩
end Go.Proofs.YtpgdlmnhomnblaaGreatDoor
namespace Go.Proofs.YtpgdlmnhomnblaaGreatDoor
open Go.RowKit
set_option linter.unusedVariables false
set_option linter.unusedSimpArgs false
set_option maxRecDepth 100000
set_option maxHeartbeats 1000000 in
theorem mayStandC_any (v : Vl) (kd : Int) (hk : kd = 1 ∨ kd = 2) (w : World) : Calls Tryz.prog 68 #[vW v, .int .i64 kd] w fun e w' => e = .returned (.bool (rgt kd v)) ∧ Below w.heap.size w w' := by
  obtain ⟨r, hr⟩ : ∃ r, rgt kd v = r := ⟨_, rfl⟩
  obtain ⟨v0, v1, z⟩ := v
  rw [hr]
  unfold rgt at hr
  simp only at hr
  have hB : Below w.heap.size w (w.alloc (.cells #[.int .i64 v0, .int .i64 v1, .string ⟨z.toArray⟩] 51)) := (Below.refl _ _).alloc (Nat.le_refl _) _
  have cs := Blk.new w 51 #[.int .i64 v0, .int .i64 v1, .string ⟨z.toArray⟩]
  have c0 : (w.alloc (.cells #[.int .i64 v0, .int .i64 v1, .string ⟨z.toArray⟩] 51)).cell? ⟨w.heap.size, 0, none⟩ = some (.int .i64 v0) := cs.cell 0
  have c1 : (w.alloc (.cells #[.int .i64 v0, .int .i64 v1, .string ⟨z.toArray⟩] 51)).cell? ⟨w.heap.size, 1, none⟩ = some (.int .i64 v1) := cs.cell 1
  have c2 : (w.alloc (.cells #[.int .i64 v0, .int .i64 v1, .string ⟨z.toArray⟩] 51)).cell? ⟨w.heap.size, 2, none⟩ = some (.string ⟨z.toArray⟩) := cs.cell 2
  obtain ⟨W, hW⟩ : ∃ W, W = (w.alloc (.cells #[.int .i64 v0, .int .i64 v1, .string ⟨z.toArray⟩] 51)) := ⟨_, rfl⟩
  rw [← hW] at hB c0 c1 c2
  have k0 := cell_regrown c0
  have k1 := cell_regrown c1
  have k2 := cell_regrown c2
  have hz0 : W.heap.size = w.heap.size + 1 := by rw [hW]; simp
  have hyn : Yields W.heap.size W 76 #[.int .i64 v1] (vW (1, v1, [])) := fun V hb => (number_any v1 V).mono fun e w' ⟨he, hb'⟩ => ⟨he, hb.trans (hb'.mono hb.size)⟩
  have hyt : Yields W.heap.size W 89 #[.string ⟨z.toArray⟩] (vW (2, 0, z)) := fun V hb => (text_any z V).mono fun e w' ⟨he, hb'⟩ => ⟨he, hb.trans (hb'.mono hb.size)⟩
  have HN := Lib.hid hyn
  have HT := Lib.hid hyt
  unfold vW at HN HT ⊢
  simp only at HN HT ⊢
  have qz : z = [] ∧ z.isEmpty = true ∨ z ≠ [] ∧ z.isEmpty = false := by cases z <;> simp
  have HW := Lib.hid hW
  clear hyn hyt cs hW
  go_enter Tryz.func68, Tryz.ntmps68
  by_cases h0 : v0 = 0
  · subst h0
    by_cases h1 : v1 = 0
    · subst h1
      rcases qz with ⟨hz, q⟩ | ⟨hz, q⟩
      · obtain rfl : r = true := by rw [← hr]; simp [hz]
        clear hr hz HN HT
        go_wp2_with fail
        go_ret
        rw [← HW.out]
        exact ⟨rfl, hB⟩
      · obtain rfl : r = false := by rw [← hr]; simp [hz]
        clear hr hz HN HT
        go_wp2_with fail
        go_ret
        rw [← HW.out]
        exact ⟨rfl, hB⟩
    · have q : (v1 == 0) = false := by simp [h1]
      obtain rfl : r = false := by rw [← hr]; simp [h1]
      clear hr qz h1 HN HT
      go_wp2_with fail
      go_ret
      rw [← HW.out]
      exact ⟨rfl, hB⟩
  · by_cases hv : v0 = kd
    · rcases hk with rfl | rfl
      · subst hv
        rcases qz with ⟨hz, q⟩ | ⟨hz, q⟩
        · obtain rfl : r = true := by rw [← hr]; simp [hz]
          clear hr hz h0
          go_wp2_with fail
          rw [← HW.out]
          refine wp_region_quiet_below (by kernel_rfl) (by kernel_rfl) ?_
          repeat (go_big_quiet_step (first
            | (go_at_call 76; exact HN.out.quiet _ _)
            | (go_at_call 89; exact HT.out.quiet _ _)))
          refine wpQuiet_nil ?_
          intro _ hw'
          obtain ⟨p, hw''⟩ := hw'
          subst hw''
          have hbp := below_regrown W p.d p.os
          go_wp2_with fail
          go_ret
          exact ⟨rfl, hB.trans (hbp.mono hB.size)⟩
        · obtain rfl : r = false := by rw [← hr]; simp [hz]
          clear hr hz h0
          go_wp2_with fail
          rw [← HW.out]
          refine wp_region_quiet_below (by kernel_rfl) (by kernel_rfl) ?_
          repeat (go_big_quiet_step (first
            | (go_at_call 76; exact HN.out.quiet _ _)
            | (go_at_call 89; exact HT.out.quiet _ _)))
          refine wpQuiet_nil ?_
          intro _ hw'
          obtain ⟨p, hw''⟩ := hw'
          subst hw''
          have hbp := below_regrown W p.d p.os
          go_wp2_with fail
          go_ret
          exact ⟨rfl, hB.trans (hbp.mono hB.size)⟩
      · subst hv
        have nb : ¬ (2 : Int) = 0 := by decide
        by_cases h1 : v1 = 0
        · subst h1
          obtain rfl : r = true := by rw [← hr]; simp
          have qs : (z == z) = true := by simp
          clear hr h0 qz nb
          go_wp2_with fail
          rw [← HW.out]
          refine wp_region_quiet_below (by kernel_rfl) (by kernel_rfl) ?_
          repeat (go_big_quiet_step (first
            | (go_at_call 76; exact HN.out.quiet _ _)
            | (go_at_call 89; exact HT.out.quiet _ _)))
          refine wpQuiet_nil ?_
          intro _ hw'
          obtain ⟨p, hw''⟩ := hw'
          subst hw''
          have hbp := below_regrown W p.d p.os
          go_wp2_with fail
          go_ret
          exact ⟨rfl, hB.trans (hbp.mono hB.size)⟩
        · have q : (v1 == 0) = false := by simp [h1]
          obtain rfl : r = false := by rw [← hr]; simp [h1]
          clear hr h0 qz nb h1
          go_wp2_with fail
          rw [← HW.out]
          refine wp_region_quiet_below (by kernel_rfl) (by kernel_rfl) ?_
          repeat (go_big_quiet_step (first
            | (go_at_call 76; exact HN.out.quiet _ _)
            | (go_at_call 89; exact HT.out.quiet _ _)))
          refine wpQuiet_nil ?_
          intro _ hw'
          obtain ⟨p, hw''⟩ := hw'
          subst hw''
          have hbp := below_regrown W p.d p.os
          go_wp2_with fail
          go_ret
          exact ⟨rfl, hB.trans (hbp.mono hB.size)⟩
    · have q1 : (v0 == 0) = false := by simp [h0]
      have q2 : (v0 == kd) = false := by simp [hv]
      obtain rfl : r = false := by rw [← hr]; simp [h0, hv]
      clear hr qz h0 hv HN HT
      go_wp2_with fail
      go_ret
      rw [← HW.out]
      exact ⟨rfl, hB⟩
end Go.Proofs.YtpgdlmnhomnblaaGreatDoor
