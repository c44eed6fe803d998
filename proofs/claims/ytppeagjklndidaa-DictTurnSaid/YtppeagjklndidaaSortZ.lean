/- Contract of the library's slices.Sort over a row of int64 of the call's own: the same slice owns its numbers, sorted. -/
import Derived.Sort.OwnSortedInts
import Derived.Test.YtppeagjklndidaaSort
import Derived.Test.YtppeagjklndidaaI64Row
namespace Go.Proofs.Ytppeagjklndidaa
open Go.RowKit Go.Sort
set_option linter.unusedVariables false
set_option linter.unusedSimpArgs false
set_option maxRecDepth 100000

theorem sort_own (base n : Nat) (v : Value) (l : List Int) (w : World) (hown : w.ownsRow base 2 1 v n (zs l)) (hl : l.length = n) (hn : n < 4611686018427387904) :
    Calls Try.prog 41 #[v] w fun e w' => e = .returned (.tuple #[]) ∧ w'.ownsRow base 2 1 v n (zs (l.mergeSort fun x y => decide (x ≤ y))) ∧ w.grownBy w' v.ownBlock := by
  subst hl
  have hz : ∀ m : List Int, m.map (Value.int .i64) = zs m := fun m => rfl
  rcases hown.2 with ⟨rfl, hx⟩ | ⟨g, cap, cur, rfl, hbase, hb, h1, h2, h3, h4⟩
  · have hl0 : l = [] := by
      have := hown.1
      rw [hx] at this
      cases l with
      | nil => rfl
      | cons y m => simp [zs] at hx
    subst hl0
    refine (sort_none none 0 w).mono ?_
    rintro e w' ⟨rfl, rfl⟩
    exact ⟨rfl, by simpa [List.mergeSort] using hown, World.grownBy.refl _ _⟩
  · have h4' : cur.toList.take l.length = l.map (Value.int .i64) := by rw [hz]; simpa using h4
    refine (sort_row g 0 cap l w (holds_of_blockI hb h4') (Array.getElem?_eq_some_iff.1 hb).1 hn).mono ?_
    rintro e w' ⟨rfl, m, os, rfl⟩
    refine ⟨rfl, ?_, grownBy_sortedI _⟩
    rw [← hz]
    exact ownsRow_sortedI (by simp) hbase hb h1 h2 h3
end Go.Proofs.Ytppeagjklndidaa
