/- Texts joined: CkPlain VlForm. -/
import Derived.Test.YtieknhhhcjdbnaaDoorJ6
import Derived.Test.YtieknhhhcjdbnaaDoorJ8
import Derived.Test.YtieknhhhcjdbnaaDoorDcPlain
import Derived.Test.YtieknhhhcjdbnaaDoorJ10
import Derived.Test.YtieknhhhcjdbnaaDoorTxPlain
/- A column's values and their chunk, told as plain bytes: why values can't be one's, which are nothing, the numbers and the texts of the others, the chunk in a way, the best way. No program; no condition. -/
namespace Go.Proofs.YtieknhhhcjdbnaaDoor
open Go.RowKit
set_option linter.unusedVariables false
set_option linter.unusedSimpArgs false

/-- A value: its kind (0 nothing, 1 a number, 2 a text), its number, its text. -/
abbrev Vl := Int × Int × Tx
/-- May it stand in a column of a kind? -/
def rgt (kd : Int) (v : Vl) : Bool :=
  if v.1 = 0 then decide (v.2.1 = 0 ∧ v.2.2 = []) else decide (v.1 = kd ∧ (kd = 1 ∧ v.2.2 = [] ∨ kd = 2 ∧ v.2.1 = 0))
/-- Why values can't be a chunk's: an error's number. -/
def ckE (kd : Int) (l : List Vl) : Int :=
  if 65536 < l.length then 12 else if ∃ v ∈ l, 65536 < v.2.2.length then 12 else if ∃ v ∈ l, rgt kd v = false then 11 else 0
theorem ckE_ok {kd : Int} {l : List Vl} (h : ckE kd l = 0) : l.length ≤ 65536 ∧ (∀ v ∈ l, v.2.2.length ≤ 65536) ∧ ∀ v ∈ l, rgt kd v = true := by
  unfold ckE at h
  split at h
  · cases h
  split at h
  · cases h
  split at h
  · cases h
  rename_i h1 h2 h3
  refine ⟨by omega, fun v hv => ?_, fun v hv => ?_⟩
  · exact Nat.le_of_not_lt fun e => h2 ⟨v, hv, e⟩
  · cases e : rgt kd v with
    | true => rfl
    | false => exact absurd ⟨v, hv, e⟩ h3
theorem ckE_of {kd : Int} {l : List Vl} (h1 : l.length ≤ 65536) (h2 : ∀ v ∈ l, v.2.2.length ≤ 65536) (h3 : ∀ v ∈ l, rgt kd v = true) : ckE kd l = 0 := by
  unfold ckE
  rw [if_neg (by omega), if_neg, if_neg]
  · rintro ⟨v, hv, e⟩; rw [h3 v hv] at e; cases e
  · rintro ⟨v, hv, e⟩; have := h2 v hv; omega
/-- Is the value nothing? -/
def nul (v : Vl) : Bool := decide (v.1 = 0)
/-- Is the value at the place nothing? -/
def non (l : List Vl) (i : Nat) : Bool := ((l.map nul)[i]?).getD false
def ints (l : List Vl) : List Int := l.filterMap fun v => if v.1 = 1 then some v.2.1 else none
def wrds (l : List Vl) : List Tx := l.filterMap fun v => if v.1 = 2 then some v.2.2 else none
theorem ints_append (a b : List Vl) : ints (a ++ b) = ints a ++ ints b := by simp [ints]
theorem wrds_append (a b : List Vl) : wrds (a ++ b) = wrds a ++ wrds b := by simp [wrds]
theorem ints_one (v : Vl) : ints [v] = if v.1 = 1 then [v.2.1] else [] := by unfold ints; by_cases h : v.1 = 1 <;> simp [h]
theorem wrds_one (v : Vl) : wrds [v] = if v.1 = 2 then [v.2.2] else [] := by unfold wrds; by_cases h : v.1 = 2 <;> simp [h]
theorem ints_step {l : List Vl} {k : Nat} {v : Vl} (h : l[k]? = some v) : ints (l.take (k + 1)) = ints (l.take k) ++ if v.1 = 1 then [v.2.1] else [] := by rw [take_snoc h, ints_append, ints_one]
theorem wrds_step {l : List Vl} {k : Nat} {v : Vl} (h : l[k]? = some v) : wrds (l.take (k + 1)) = wrds (l.take k) ++ if v.1 = 2 then [v.2.2] else [] := by rw [take_snoc h, wrds_append, wrds_one]
theorem non_at {l : List Vl} {k : Nat} {v : Vl} (h : l[k]? = some v) : non l k = nul v := by unfold non; rw [List.getElem?_map, h]; rfl
theorem non_far {l : List Vl} {k : Nat} (h : l.length ≤ k) : non l k = false := by unfold non; rw [List.getElem?_map, List.getElem?_eq_none h]; rfl
theorem ints_length_le (l : List Vl) : (ints l).length ≤ l.length := List.length_filterMap_le _ _
theorem wrds_length_le (l : List Vl) : (wrds l).length ≤ l.length := List.length_filterMap_le _ _
theorem ints_in {l : List Vl} (h : ∀ v ∈ l, In64 v.2.1) : ∀ z ∈ ints l, In64 z := by
  intro z hz
  obtain ⟨v, hv, e⟩ := List.mem_filterMap.1 hz
  split at e
  · cases e; exact h v hv
  · cases e
theorem wrds_short {l : List Vl} {q : Nat} (h : ∀ v ∈ l, v.2.2.length ≤ q) : ∀ s ∈ wrds l, s.length ≤ q := by
  intro z hz
  obtain ⟨v, hv, e⟩ := List.mem_filterMap.1 hz
  split at e
  · cases e; exact h v hv
  · cases e
/-- The kind of a value that may stand in a column, nothing aside. -/
theorem rgt_kind {kd : Int} {v : Vl} (h : rgt kd v = true) : v = (0, 0, []) ∨ (v.1 = 1 ∧ kd = 1 ∧ v.2.2 = []) ∨ (v.1 = 2 ∧ kd = 2 ∧ v.2.1 = 0) := by
  obtain ⟨a, b, c⟩ := v
  unfold rgt at h
  split at h
  · rename_i e
    have h' := of_decide_eq_true h
    left
    simp at e h' ⊢
    exact ⟨e, h'⟩
  · obtain ⟨h1, h2 | h2⟩ := of_decide_eq_true h
    · exact .inr (.inl ⟨h1.trans h2.1, h2.1, h2.2⟩)
    · exact .inr (.inr ⟨h1.trans h2.1, h2.1, h2.2⟩)
/-- The first part: is any nothing, and which. -/
def headB (l : List Vl) : List Nat := if cnt (non l) l.length = 0 then [0] else 1 :: setB (non l) l.length
/-- The others, in a way's form. -/
def frm (way : Nat) (l : List Vl) : List Nat :=
  if way = 0 then pl (ints l) else if way = 1 then rf (runs (ints l)) else if way = 2 then dl (ints l) else if way = 3 then dc (ints l) else if way = 4 then fo (ints l) else txf (wrds l)
/-- The chunk in a way. -/
def lyB (l : List Vl) (way : Nat) : List Nat := headB l ++ [way] ++ frm way l
/-- Is a way one of a kind? -/
def ofW (way kd : Int) : Bool := decide (kd = 1 ∧ 0 ≤ way ∧ way ≤ 4 ∨ kd = 2 ∧ way = 5)
/-- The best of the ways below one. -/
def bst (kd : Int) (l : List Vl) : Nat → Int
  | 0 => -1
  | k + 1 => if ofW (k : Int) kd = true ∧ (bst kd l k < 0 ∨ (lyB l k).length < (lyB l (bst kd l k).toNat).length) then (k : Int) else bst kd l k
def bestW (kd : Int) (l : List Vl) : Int := if (kd ≠ 1 ∧ kd ≠ 2) ∨ ckE kd l ≠ 0 then -1 else bst kd l 6
theorem bst_ok (kd : Int) (l : List Vl) : ∀ k : Nat, (bst kd l k = -1 ∧ ∀ j : Nat, j < k → ofW (j : Int) kd = false) ∨ (0 ≤ bst kd l k ∧ bst kd l k < k ∧ ofW (bst kd l k) kd = true ∧ ∀ j : Nat, j < k → ofW (j : Int) kd = true → (lyB l (bst kd l k).toNat).length ≤ (lyB l j).length) := by
  intro k
  induction k with
  | zero => left; exact ⟨rfl, fun j hj => absurd hj (by omega)⟩
  | succ k ih =>
    rw [bst]
    by_cases h : ofW (k : Int) kd = true ∧ (bst kd l k < 0 ∨ (lyB l k).length < (lyB l (bst kd l k).toNat).length)
    · rw [if_pos h]
      right
      refine ⟨by omega, by omega, h.1, fun j hj hw => ?_⟩
      rw [Int.toNat_natCast]
      by_cases e : j = k
      · subst e; exact Nat.le_refl _
      · rcases ih with ⟨h1, h2⟩ | ⟨h1, h2, h3, h4⟩
        · rw [h2 j (by omega)] at hw; cases hw
        · have := h4 j (by omega) hw
          rcases h.2 with h5 | h5 <;> omega
    · rw [if_neg h]
      rcases ih with ⟨h1, h2⟩ | ⟨h1, h2, h3, h4⟩
      · left
        refine ⟨h1, fun j hj => ?_⟩
        by_cases e : j = k
        · subst e
          cases hw : ofW (j : Int) kd with
          | false => rfl
          | true => exact absurd ⟨hw, .inl (by omega)⟩ h
        · exact h2 j (by omega)
      · right
        refine ⟨h1, by omega, h3, fun j hj hw => ?_⟩
        by_cases e : j = k
        · subst e
          exact Nat.le_of_not_lt fun h5 => h ⟨hw, .inr h5⟩
        · exact h4 j (by omega) hw
theorem ofW_range {way kd : Int} (h : ofW way kd = true) : 0 ≤ way ∧ way ≤ 5 ∧ (kd = 1 ∧ way ≤ 4 ∨ kd = 2 ∧ way = 5) := by
  have := of_decide_eq_true h
  omega
/-- The best way is one of the kind, and no other has fewer bytes. -/
theorem bestW_ok {kd : Int} {l : List Vl} (hk : kd = 1 ∨ kd = 2) (h : ckE kd l = 0) : ofW (bestW kd l) kd = true ∧ ∀ way : Nat, ofW (way : Int) kd = true → (lyB l (bestW kd l).toNat).length ≤ (lyB l way).length := by
  unfold bestW
  rw [if_neg (by omega)]
  rcases bst_ok kd l 6 with ⟨_, h2⟩ | ⟨h1, h2, h3, h4⟩
  · exfalso
    rcases hk with rfl | rfl
    · have := h2 0 (by omega); cases this
    · have := h2 5 (by omega); cases this
  · exact ⟨h3, fun way hw => h4 way (by have := ofW_range hw; omega) hw⟩
/-- The error's number of putting. -/
def cpE (kd way : Int) (l : List Vl) : Int := if (kd ≠ 1 ∧ kd ≠ 2) ∨ (way ≠ -1 ∧ ofW way kd = false) then 1 else ckE kd l
/-- The way that is put. -/
def cpW (kd way : Int) (l : List Vl) : Nat := (if way = -1 then bestW kd l else way).toNat
/-- What is put. -/
def cpB (kd way : Int) (l : List Vl) : List Nat := if cpE kd way l = 0 then lyB l (cpW kd way l) else []
theorem cpE_ok {kd way : Int} {l : List Vl} (h : cpE kd way l = 0) : (kd = 1 ∨ kd = 2) ∧ ckE kd l = 0 ∧ ofW (cpW kd way l : Int) kd = true ∧ cpB kd way l = lyB l (cpW kd way l) := by
  have h0 := h
  unfold cpE at h
  split at h
  · cases h
  · rename_i h1
    have hk : kd = 1 ∨ kd = 2 := by omega
    refine ⟨hk, h, ?_, by unfold cpB; rw [if_pos h0]⟩
    unfold cpW
    by_cases e : way = -1
    · rw [if_pos e]
      have hb := (bestW_ok hk h).1
      have := ofW_range hb
      rw [Int.toNat_of_nonneg (by omega)]; exact hb
    · rw [if_neg e]
      have hw : ofW way kd = true := by
        cases hw : ofW way kd with
        | true => rfl
        | false => exact absurd (.inr ⟨e, hw⟩) h1
      have := ofW_range hw
      rw [Int.toNat_of_nonneg (by omega)]; exact hw
end Go.Proofs.YtieknhhhcjdbnaaDoor

/- Values, schemas and rows as plain bytes; what is wrong with a schema, with a row. No condition. -/
namespace Go.Proofs.YtieknhhhcjdbnaaDoor
open Go.RowKit
set_option linter.unusedVariables false
set_option linter.unusedSimpArgs false
set_option maxRecDepth 100000

/-- A column: its kind, whether it may have nothing, its way. -/
abbrev Cl := Int × Bool × Int
/-- What is wrong with a schema: an error's number. -/
def scE (s : List Cl) : Int := if s.length = 0 ∨ 64 < s.length then 12 else if ∃ c ∈ s, c.1 ≠ 1 ∧ c.1 ≠ 2 then 11 else if ∃ c ∈ s, c.2.2 ≠ -1 ∧ ofW c.2.2 c.1 = false then 1 else 0
/-- What is wrong with a value of a column; with a row. -/
def colE (c : Cl) (v : Vl) : Int := if rgt c.1 v = false ∨ v.1 = 0 ∧ c.2.1 = false then 11 else if 65536 < v.2.2.length then 12 else 0
def colsE : List Cl → List Vl → Int
  | c :: s, v :: r => if colE c v ≠ 0 then colE c v else colsE s r
  | _, _ => 0
def rwE (s : List Cl) (row : List Vl) : Int := if row.length ≠ s.length then 1 else colsE s row
/-- The forms. -/
def vB (v : Vl) : List Nat := (v.1 % 256).toNat :: (if v.1 = 1 then vb (zg v.2.1) else if v.1 = 2 then blbT v.2.2 else [])
def cB (c : Cl) : List Nat := [(c.1 % 256).toNat, if c.2.1 = true then 1 else 0, ((c.2.2 + 1) % 256).toNat]
def scB (s : List Cl) : List Nat := s.length % 256 :: s.flatMap cB
def rowB (r : List Vl) : List Nat := r.flatMap vB
def rwB (rows : List (List Vl)) : List Nat := vb rows.length ++ rows.flatMap rowB
theorem rowB_cons (v : Vl) (r : List Vl) : rowB (v :: r) = vB v ++ rowB r := by simp [rowB]
theorem rowB_append (a b : List Vl) : rowB (a ++ b) = rowB a ++ rowB b := by simp [rowB]
end Go.Proofs.YtieknhhhcjdbnaaDoor
