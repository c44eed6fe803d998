/- Plain facts on texts, byte by byte: the model's order is one. No program. -/
import Derived.WalkKit
namespace Go.Proofs.YtkopoepoinkpeaaDoor
open Go.RowKit
set_option linter.unusedVariables false
set_option linter.unusedSimpArgs false

/-- A text: its bytes. -/
abbrev Tx := List UInt8
/-- It stands ahead. -/
def tlt (a b : Tx) : Prop := Op.bytesLess a b = true
instance (a b : Tx) : Decidable (tlt a b) := inferInstanceAs (Decidable (_ = true))
theorem u8_lt_irrefl (a : UInt8) : ¬ a < a := by rw [UInt8.lt_iff_toNat_lt]; omega
theorem u8_lt_trans {a b c : UInt8} (h1 : a < b) (h2 : b < c) : a < c := by rw [UInt8.lt_iff_toNat_lt] at *; omega
theorem u8_total {a b : UInt8} (h1 : ¬ a < b) (h2 : ¬ a = b) : b < a := by
  rw [UInt8.lt_iff_toNat_lt] at *
  have : a.toNat ≠ b.toNat := fun e => h2 (UInt8.toNat_inj.1 e)
  omega
theorem tlt_nil (b : Tx) : tlt [] b ↔ b ≠ [] := by
  cases b <;> simp [tlt, Op.bytesLess]
theorem not_tlt_nil (a : Tx) : ¬ tlt a [] := by
  cases a <;> simp [tlt, Op.bytesLess]
theorem tlt_cons (a b : UInt8) (x y : Tx) : tlt (a :: x) (b :: y) ↔ a < b ∨ a = b ∧ tlt x y := by
  unfold tlt
  rw [Op.bytesLess]
  simp
theorem tlt_irrefl : ∀ a : Tx, ¬ tlt a a := by
  intro a
  induction a with
  | nil => exact not_tlt_nil []
  | cons x a ih =>
    rw [tlt_cons]
    rintro (h | ⟨_, h⟩)
    · exact u8_lt_irrefl x h
    · exact ih h
theorem tlt_trans : ∀ {a b c : Tx}, tlt a b → tlt b c → tlt a c := by
  intro a
  induction a with
  | nil =>
    intro b c h1 h2
    rw [tlt_nil]
    intro e
    subst e
    exact not_tlt_nil b h2
  | cons x a ih =>
    intro b c h1 h2
    cases b with
    | nil => exact absurd h1 (not_tlt_nil _)
    | cons y b =>
      cases c with
      | nil => exact absurd h2 (not_tlt_nil _)
      | cons z c =>
        rw [tlt_cons] at *
        rcases h1 with h1 | ⟨h1, h1'⟩
        · rcases h2 with h2 | ⟨h2, h2'⟩
          · exact .inl (u8_lt_trans h1 h2)
          · subst h2; exact .inl h1
        · subst h1
          rcases h2 with h2 | ⟨h2, h2'⟩
          · exact .inl h2
          · exact .inr ⟨h2, ih h1' h2'⟩
theorem tlt_total : ∀ {a b : Tx}, ¬ tlt a b → ¬ a = b → tlt b a := by
  intro a
  induction a with
  | nil =>
    intro b h1 h2
    rw [tlt_nil] at h1
    exact absurd (Classical.not_not.1 h1).symm h2
  | cons x a ih =>
    intro b h1 h2
    cases b with
    | nil => rw [tlt_nil]; simp
    | cons y b =>
      rw [tlt_cons] at *
      by_cases hxy : x = y
      · subst hxy
        refine .inr ⟨rfl, ih (fun h => h1 (.inr ⟨rfl, h⟩)) (fun e => h2 (by rw [e]))⟩
      · exact .inl (u8_total (fun h => h1 (.inl h)) hxy)
theorem tlt_asymm {a b : Tx} (h : tlt a b) : ¬ tlt b a := fun h2 => tlt_irrefl a (tlt_trans h h2)
theorem tlt_ne {a b : Tx} (h : tlt a b) : a ≠ b := fun e => tlt_irrefl a (by rw [e] at h ⊢; exact h)
end Go.Proofs.YtkopoepoinkpeaaDoor
