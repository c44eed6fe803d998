/- Contract of the document's Fold, whole. No condition. -/
import Derived.Test.YtkopoepoinkpeaaDoorTrRefFoldL
import Derived.Test.YtkopoepoinkpeaaDoorTrRefFoldR
namespace Go.Proofs.YtkopoepoinkpeaaDoor
open Go.RowKit
set_option linter.unusedVariables false
set_option linter.unusedSimpArgs false

theorem refFold_any : ∀ N, FoldC N := by
  intro N
  induction N using Nat.strongRecOn with
  | _ N ih =>
    intro n hn d i ds A m c w h32 hd hm hdg hat hc hm1
    by_cases hs : 2 ≤ n ∧ n ≤ 1099511627776 ∧ 0 ≤ i ∧ i < n ∧ 0 < m
    · obtain ⟨h1, h2, h3, h4, h5⟩ := hs
      obtain ⟨a, rfl⟩ : ∃ a : Nat, i = (a : Int) := ⟨i.toNat, by omega⟩
      obtain rfl : n = (N : Int) := by omega
      obtain ⟨l, rfl⟩ : ∃ l, m = l + 1 := ⟨m - 1, by omega⟩
      by_cases hk : a < spl N
      · exact refFold_left N (Lib.hid ih) d a ds A l c w h32 hd hm hdg hat hc hm1 (by omega) (by omega) (by omega) hk
      · exact refFold_right N (Lib.hid ih) d a ds A l c w h32 hd hm hdg hat hc hm1 (by omega) (by omega) (by omega) hk
    · exact refFold_small d i n ds A m c w h32 hd hm hdg hat hc hm1 hs
end Go.Proofs.YtkopoepoinkpeaaDoor
