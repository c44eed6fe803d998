/- Texts joined: FoPlain TxOrd. -/
import Derived.Test.YtieknhhhcjdbnaaDoorJ7
import Derived.WalkKit
/- Plain facts on the form by the least one: the least of numbers, the differences to it, the form. No program, no condition. -/
namespace Go.Proofs.YtieknhhhcjdbnaaDoor
open Go.RowKit
set_option linter.unusedVariables false
set_option linter.unusedSimpArgs false
set_option maxRecDepth 100000

/-- The least of numbers, of which one is 'm'. -/
def lsI (m : Int) (l : List Int) : Int := l.foldl (fun a z => min a z) m
/-- The least one (0 of none). -/
def ls : List Int → Int
  | [] => 0
  | z :: l => lsI z l
theorem lsI_le (l : List Int) : ∀ m, lsI m l ≤ m ∧ ∀ z ∈ l, lsI m l ≤ z := by
  induction l with
  | nil => intro m; simp [lsI]
  | cons y l ih =>
    intro m
    obtain ⟨h1, h2⟩ := ih (min m y)
    have e : lsI m (y :: l) = lsI (min m y) l := rfl
    rw [e]
    refine ⟨by omega, fun z hz => ?_⟩
    rcases List.mem_cons.1 hz with rfl | hz
    · omega
    · exact h2 z hz
theorem lsI_mem (l : List Int) : ∀ m, lsI m l = m ∨ lsI m l ∈ l := by
  induction l with
  | nil => intro m; exact .inl rfl
  | cons y l ih =>
    intro m
    have e : lsI m (y :: l) = lsI (min m y) l := rfl
    rw [e]
    rcases ih (min m y) with h | h
    · rw [h]
      by_cases hm : m ≤ y
      · exact .inl (by omega)
      · exact .inr (by rw [show min m y = y by omega]; simp)
    · exact .inr (List.mem_cons_of_mem _ h)
theorem lsI_snoc (m z : Int) (l : List Int) : lsI m (l ++ [z]) = min (lsI m l) z := by simp [lsI]
theorem ls_step {l : List Int} {k : Nat} {z : Int} (hk : 0 < k) (h : l[k]? = some z) : ls (l.take (k + 1)) = min (ls (l.take k)) z := by
  have hl := (List.getElem?_eq_some_iff.1 h).1
  rw [List.take_add_one, h]
  obtain ⟨y, r, hr⟩ : ∃ y r, l.take k = y :: r := by
    cases hr : l.take k with
    | nil => have h2 := congrArg List.length hr; rw [List.length_take] at h2; simp only [List.length_nil] at h2; omega
    | cons y r => exact ⟨y, r, rfl⟩
  rw [hr]
  show lsI y (r ++ [z]) = min (lsI y r) z
  exact lsI_snoc y z r
theorem ls_first {l : List Int} {z : Int} (h : l[0]? = some z) : ls (l.take 1) = z := by
  cases l with
  | nil => simp at h
  | cons y r => simp at h; subst h; rfl
/-- The least one of the first and of so many. -/
def lsF (z : Int) (l : List Int) (k : Nat) : Int := lsI z (l.take k)
theorem lsF_step {z x : Int} {l : List Int} {k : Nat} (h : l[k]? = some x) : lsF z l (k + 1) = min (lsF z l k) x := by
  unfold lsF
  rw [List.take_add_one, h]
  exact lsI_snoc _ _ _
theorem lsF_all {z : Int} {l : List Int} (h : l[0]? = some z) : lsF z l l.length = ls l := by
  unfold lsF
  rw [List.take_length]
  cases l with
  | nil => simp at h
  | cons y r =>
    simp at h
    subst h
    show lsI (min y y) r = lsI y r
    rw [Int.min_self]
theorem ls_le {l : List Int} : ∀ z ∈ l, ls l ≤ z := by
  cases l with
  | nil => intro z h; simp at h
  | cons y l =>
    intro z hz
    obtain ⟨h1, h2⟩ := lsI_le l y
    rcases List.mem_cons.1 hz with rfl | hz
    · exact h1
    · exact h2 z hz
theorem ls_mem {l : List Int} (h : l ≠ []) : ls l ∈ l := by
  cases l with
  | nil => exact absurd rfl h
  | cons y l =>
    rcases lsI_mem l y with h1 | h1
    · show lsI y l ∈ y :: l
      rw [h1]; simp
    · exact List.mem_cons_of_mem _ h1
theorem ls_eq {l : List Int} {m : Int} (h : m ∈ l) (hl : ∀ z ∈ l, m ≤ z) : ls l = m := by
  have h1 := ls_le m h
  have h2 := hl (ls l) (ls_mem (by intro e; subst e; simp at h))
  omega
theorem ls_in {l : List Int} (h : ∀ z ∈ l, In64 z) : In64 (ls l) := by
  by_cases he : l = []
  · subst he; simp [ls, In64]
  · exact h _ (ls_mem he)
/-- The differences to 'm'. -/
def dfs (m : Int) (l : List Int) : List Nat := l.map fun z => (z - m).toNat
theorem dfs_length (m : Int) (l : List Int) : (dfs m l).length = l.length := by simp [dfs]
theorem dfs_lt {l : List Int} {m : Int} (h : ∀ z ∈ l, In64 z) (hm : In64 m) : ∀ a ∈ dfs m l, a < 18446744073709551616 := by
  intro a ha
  obtain ⟨z, hz, rfl⟩ := List.mem_map.1 ha
  have := h z hz
  unfold In64 at this hm
  omega
theorem dfs_at {l : List Int} {m z : Int} {k : Nat} (h : l[k]? = some z) : (dfs m l)[k]? = some (z - m).toNat := by unfold dfs; rw [List.getElem?_map, h]; rfl
theorem dfs_step {l : List Int} {m z : Int} {k : Nat} (h : l[k]? = some z) : (dfs m l).take (k + 1) = (dfs m l).take k ++ [(z - m).toNat] := take_snoc (dfs_at h)
theorem dfs_zero {l : List Int} (h : l ≠ []) : 0 ∈ dfs (ls l) l := List.mem_map.2 ⟨ls l, ls_mem h, by omega⟩
/-- What is so much above 'm'. -/
def ups (m : Int) (d : List Nat) : List Int := d.map fun a : Nat => m + (a : Int)
theorem ups_length (m : Int) (d : List Nat) : (ups m d).length = d.length := by simp [ups]
theorem ups_dfs {l : List Int} {m : Int} (h : ∀ z ∈ l, m ≤ z) : ups m (dfs m l) = l := by
  unfold ups dfs
  rw [List.map_map]
  conv => rhs; rw [← List.map_id l]
  refine List.map_congr_left fun z hz => ?_
  have := h z hz
  show m + ((z - m).toNat : Int) = z
  omega
theorem dfs_ups (m : Int) (d : List Nat) : dfs m (ups m d) = d := by
  unfold ups dfs
  rw [List.map_map]
  conv => rhs; rw [← List.map_id d]
  refine List.map_congr_left fun a _ => ?_
  show (m + (a : Int) - m).toNat = a
  omega
theorem ls_ups {m : Int} {d : List Nat} (h : 0 ∈ d) : ls (ups m d) = m := by
  refine ls_eq (List.mem_map.2 ⟨0, h, by omega⟩) fun z hz => ?_
  obtain ⟨a, _, rfl⟩ := List.mem_map.1 hz
  omega
theorem dfs_shift (m by_ : Int) (l : List Int) : dfs (m + by_) (l.map fun z => z + by_) = dfs m l := by
  unfold dfs
  rw [List.map_map]
  refine List.map_congr_left fun z _ => ?_
  show (z + by_ - (m + by_)).toNat = (z - m).toNat
  congr 1; omega
theorem lsI_shift (by_ : Int) (l : List Int) : ∀ m, lsI (m + by_) (l.map fun z => z + by_) = lsI m l + by_ := by
  induction l with
  | nil => intro m; rfl
  | cons y l ih =>
    intro m
    show lsI (min (m + by_) (y + by_)) (l.map fun z => z + by_) = lsI (min m y) l + by_
    rw [show min (m + by_) (y + by_) = min m y + by_ by omega, ih]
theorem ls_shift (by_ : Int) {l : List Int} (h : l ≠ []) : ls (l.map fun z => z + by_) = ls l + by_ := by
  cases l with
  | nil => exact absurd rfl h
  | cons y l => exact lsI_shift by_ l y
/-- Behind the least one: the width, and the differences packed. -/
def foB (l : List Int) : List Nat := [wd (dfs (ls l) l)] ++ packB (wd (dfs (ls l) l)) (dfs (ls l) l)
/-- The form. -/
def fo (l : List Int) : List Nat := if l = [] then [] else vb (zg (ls l)) ++ foB l
theorem fo_nil : fo [] = [] := rfl
theorem fo_ne {l : List Int} (h : l ≠ []) : fo l = vb (zg (ls l)) ++ foB l := by unfold fo; rw [if_neg h]
theorem foB_shift (by_ : Int) {l : List Int} (h : l ≠ []) : foB (l.map fun z => z + by_) = foB l := by
  unfold foB
  rw [ls_shift by_ h, dfs_shift]
theorem wd_dfs {l : List Int} (h : ∀ z ∈ l, In64 z) : wd (dfs (ls l) l) ≤ 64 := (wd_le _ 64).2 (by intro a ha; have := dfs_lt h (ls_in h) a ha; omega)
theorem foB_length {l : List Int} (h : ∀ z ∈ l, In64 z) (hn : l.length ≤ 65536) : (foB l).length ≤ 524290 := by
  unfold foB
  rw [List.length_append, packB_length, dfs_length]
  have h1 := wd_dfs h
  have h2 : l.length * wd (dfs (ls l) l) ≤ 65536 * 64 := Nat.mul_le_mul hn h1
  simp only [List.length_singleton]
  unfold sz; omega
theorem fo_length {l : List Int} (h : ∀ z ∈ l, In64 z) (hn : l.length ≤ 65536) : (fo l).length ≤ 524300 := by
  unfold fo
  split
  · simp
  · have h1 := foB_length h hn
    have h2 := (vb_length (zg (ls l))).2
    rw [List.length_append]; omega
theorem fo_byte {l : List Int} (h : ∀ z ∈ l, In64 z) : ∀ b ∈ fo l, b < 256 := by
  intro b hb
  unfold fo at hb
  split at hb
  · simp at hb
  · rcases List.mem_append.1 hb with hb | hb
    · exact vb_byte _ (zg_int (ls_in h)).2 b hb
    · unfold foB at hb
      have := wd_dfs h
      rcases List.mem_append.1 hb with hb | hb
      · simp at hb; omega
      · exact packB_byte _ _ b hb
end Go.Proofs.YtieknhhhcjdbnaaDoor

/- Plain facts on texts, byte by byte: the model's order is one. No program. -/
namespace Go.Proofs.YtieknhhhcjdbnaaDoor
open Go.RowKit
set_option linter.unusedVariables false
set_option linter.unusedSimpArgs false

/-- A text: its bytes. -/
abbrev Tx := List UInt8
/-- It stands ahead. -/
def tlt (a b : Tx) : Prop := Op.bytesLess a b = true
instance (a b : Tx) : Decidable (tlt a b) := inferInstanceAs (Decidable (_ = true))
theorem u8_lt_irrefl (a : UInt8) : ¬ a < a := by rw [UInt8.lt_iff_toNat_lt]; omega
theorem u8_lt_trans {a b c : UInt8} (h1 : a < b) (h2 : b < c) : a < c := by rw [UInt8.lt_iff_toNat_lt] at *; omega
theorem u8_total {a b : UInt8} (h1 : ¬ a < b) (h2 : ¬ a = b) : b < a := by
  rw [UInt8.lt_iff_toNat_lt] at *
  have : a.toNat ≠ b.toNat := fun e => h2 (UInt8.toNat_inj.1 e)
  omega
theorem tlt_nil (b : Tx) : tlt [] b ↔ b ≠ [] := by
  cases b <;> simp [tlt, Op.bytesLess]
theorem not_tlt_nil (a : Tx) : ¬ tlt a [] := by
  cases a <;> simp [tlt, Op.bytesLess]
theorem tlt_cons (a b : UInt8) (x y : Tx) : tlt (a :: x) (b :: y) ↔ a < b ∨ a = b ∧ tlt x y := by
  unfold tlt
  rw [Op.bytesLess]
  simp
theorem tlt_irrefl : ∀ a : Tx, ¬ tlt a a := by
  intro a
  induction a with
  | nil => exact not_tlt_nil []
  | cons x a ih =>
    rw [tlt_cons]
    rintro (h | ⟨_, h⟩)
    · exact u8_lt_irrefl x h
    · exact ih h
theorem tlt_trans : ∀ {a b c : Tx}, tlt a b → tlt b c → tlt a c := by
  intro a
  induction a with
  | nil =>
    intro b c h1 h2
    rw [tlt_nil]
    intro e
    subst e
    exact not_tlt_nil b h2
  | cons x a ih =>
    intro b c h1 h2
    cases b with
    | nil => exact absurd h1 (not_tlt_nil _)
    | cons y b =>
      cases c with
      | nil => exact absurd h2 (not_tlt_nil _)
      | cons z c =>
        rw [tlt_cons] at *
        rcases h1 with h1 | ⟨h1, h1'⟩
        · rcases h2 with h2 | ⟨h2, h2'⟩
          · exact .inl (u8_lt_trans h1 h2)
          · subst h2; exact .inl h1
        · subst h1
          rcases h2 with h2 | ⟨h2, h2'⟩
          · exact .inl h2
          · exact .inr ⟨h2, ih h1' h2'⟩
theorem tlt_total : ∀ {a b : Tx}, ¬ tlt a b → ¬ a = b → tlt b a := by
  intro a
  induction a with
  | nil =>
    intro b h1 h2
    rw [tlt_nil] at h1
    exact absurd (Classical.not_not.1 h1).symm h2
  | cons x a ih =>
    intro b h1 h2
    cases b with
    | nil => rw [tlt_nil]; simp
    | cons y b =>
      rw [tlt_cons] at *
      by_cases hxy : x = y
      · subst hxy
        refine .inr ⟨rfl, ih (fun h => h1 (.inr ⟨rfl, h⟩)) (fun e => h2 (by rw [e]))⟩
      · exact .inl (u8_total (fun h => h1 (.inl h)) hxy)
theorem tlt_asymm {a b : Tx} (h : tlt a b) : ¬ tlt b a := fun h2 => tlt_irrefl a (tlt_trans h h2)
theorem tlt_ne {a b : Tx} (h : tlt a b) : a ≠ b := fun e => tlt_irrefl a (by rw [e] at h ⊢; exact h)
end Go.Proofs.YtieknhhhcjdbnaaDoor
