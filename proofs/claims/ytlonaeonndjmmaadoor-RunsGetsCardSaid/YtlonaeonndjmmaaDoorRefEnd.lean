/- The document's own reader: contract of its End. -/
import Derived.Test.YtlonaeonndjmmaaDoorRefRd
import Derived.Test.YtlonaeonndjmmaaDoorErrEnd
namespace Go.Proofs.YtlonaeonndjmmaaDoor
open Go.RowKit
set_option linter.unusedVariables false
set_option linter.unusedSimpArgs false
set_option maxRecDepth 100000

set_option maxHeartbeats 400000 in
theorem rend_is {w : World} {g : Nat} {l : List Nat} {at_ : Nat} {x : Option (Int × Nat)} (h : RfS w g l at_ x) :
    Calls Tryd.prog 17 #[.pointer (some ⟨g, 0, none⟩)] w fun e w' => Tells (endS l at_ x).1 ((endS l at_ x).2 : Int) e ∧ Drawn w w' := by
  obtain ⟨⟨A, n, c, hR⟩, hX⟩ := h
  have hc0 := hR.blk.cell 0
  have hc1 := hR.blk.cell 1
  have hc2 := hR.blk.cell 2
  have hc3 := hR.blk.cell 3
  simp only [List.getElem?_toArray, List.getElem?_cons_succ, List.getElem?_cons_zero] at hc0 hc1 hc2 hc3
  have hln := hR.length
  unfold endS
  rcases hx : errS x with ⟨k, on⟩
  rw [hx] at hc2 hc3
  simp only at hc2 hc3 ⊢
  clear hx
  by_cases hk : k = 0
  · subst hk
    by_cases hlt : at_ < l.length
    · rw [if_pos ⟨rfl, hlt⟩]
      have hlt' : (at_ : Int) < (n : Int) := by omega
      have hlt2 : decide ((at_ : Int) < (n : Int)) = true := by simpa using hlt'
      clear hln hlt
      go_enter Tryd.func17, Tryd.ntmps17
      go_wp2_with fail
      go_quiet (fail)
      go_wp2_with fail
      go_quiet (fail)
      go_wp2_with fail
      go_ret2
      exact ⟨rfl, (Drawn.one _ _).more _⟩
    · rw [if_neg (fun h => hlt h.2)]
      have hlt' : ¬ (at_ : Int) < (n : Int) := by omega
      have hlt2 : decide ((at_ : Int) < (n : Int)) = false := by simpa using hlt'
      clear hln hlt
      go_enter Tryd.func17, Tryd.ntmps17
      go_wp2_with fail
      go_quiet (fail)
      go_wp2_with fail
      go_quiet (fail)
      go_wp2_with fail
      go_ret2
      exact ⟨rfl, (Drawn.one _ _).more _⟩
  · have hk1 : (k == 0) = false := by simp [hk]
    rw [if_neg (fun h => hk h.1)]
    clear hln
    go_enter Tryd.func17, Tryd.ntmps17
    go_wp2_with fail
    go_quiet (fail)
    go_wp2_with fail
    go_quiet (fail)
    go_wp2_with fail
    go_ret2
    exact ⟨rfl, (Drawn.one _ _).more _⟩
end Go.Proofs.YtlonaeonndjmmaaDoor
