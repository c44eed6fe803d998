/- A short number that is cut off is short; a new reader as a reader with its error. -/
import Derived.Test.YtlonaeonndjmmaaDoorLook
namespace Go.Proofs.YtlonaeonndjmmaaDoor
open Go.RowKit
set_option linter.unusedVariables false
set_option linter.unusedSimpArgs false
set_option maxRecDepth 100000

theorem short_pre (f : Nat) : ∀ v i acc j, i + f ≤ 9 → j < (vbF f v).length → lookF i acc ((vbF f v).take j) = (0, 0, 2) := by
  induction f with
  | zero => intro v i acc j hi hj; simp [vbF] at hj; subst hj; simp [lookF]
  | succ f ih =>
    intro v i acc j hi hj
    rw [vbF_step] at hj ⊢
    by_cases h : v < 128
    · rw [if_pos h] at hj; simp at hj; subst hj; simp [lookF]
    · rw [if_neg h] at hj ⊢
      cases j with
      | zero => simp [lookF]
      | succ j =>
        simp only [List.length_cons] at hj
        rw [List.take_succ_cons]
        unfold lookF
        rw [if_neg (by omega), if_neg (by omega)]
        exact ih _ _ _ _ (by omega) (by omega)
theorem short_vb (v j : Nat) (hj : j < (vb v).length) : lookF 0 0 ((vb v).take j) = (0, 0, 2) := short_pre 9 v 0 0 j (by omega) hj
theorem rd_new {w : World} {g : Nat} {A : Option Addr} {n c : Nat} {l : List Nat} (h : Rd w g A n c 0 .nilIface l) : RdS w g l 0 none := ⟨A, n, c, _, h, rfl⟩

end Go.Proofs.YtlonaeonndjmmaaDoor
