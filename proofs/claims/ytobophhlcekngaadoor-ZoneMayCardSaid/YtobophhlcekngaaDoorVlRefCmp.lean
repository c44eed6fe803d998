/- Contract of the document's order of values. Nothing that was there changes. -/
import Derived.Test.YtobophhlcekngaaDoorJ2
import Derived.Test.YtobophhlcekngaaDoorJ3
namespace Go.Proofs.YtobophhlcekngaaDoor
open Go.RowKit
set_option linter.unusedVariables false
set_option linter.unusedSimpArgs false
set_option maxRecDepth 100000

attribute [local go_sem] binOp_gtr_tx
set_option maxHeartbeats 1000000 in
theorem refCmp_any (a b : Vl) (w : World) : Calls Tryd.prog 36 #[vW a, vW b] w fun e w' => e = .returned (.int .i64 (cmpV a b)) ∧ Below w.heap.size w w' := by
  have hc := cmp_cases a b
  obtain ⟨r, hr⟩ : ∃ r, cmpV a b = r := ⟨_, rfl⟩
  rw [hr] at hc ⊢
  obtain ⟨a0, a1, za⟩ := a
  obtain ⟨b0, b1, zb⟩ := b
  simp only at hc
  unfold vW
  simp only
  have hB : Below w.heap.size w ((w.alloc (.cells #[.int .i64 a0, .int .i64 a1, .string ⟨za.toArray⟩] 34)).alloc (.cells #[.int .i64 b0, .int .i64 b1, .string ⟨zb.toArray⟩] 34)) :=
    ((Below.refl _ _).alloc (Nat.le_refl _) _).alloc (by simp) _
  clear hr
  rcases hc with ⟨h, rfl⟩ | ⟨h, rfl⟩ | ⟨rfl, ⟨rfl, ⟨h, rfl⟩ | ⟨h, rfl⟩ | ⟨rfl, rfl⟩⟩ | ⟨rfl, ⟨h, rfl⟩ | ⟨h, rfl⟩ | ⟨rfl, rfl⟩⟩ | ⟨h1, h2, rfl⟩⟩
  · go_enter Tryd.func36, Tryd.ntmps36
    go_wp2_with fail
    go_ret
    exact ⟨rfl, hB⟩
  · have h' : ¬ a0 < b0 := by omega
    go_enter Tryd.func36, Tryd.ntmps36
    go_wp2_with fail
    go_ret
    exact ⟨rfl, hB⟩
  · go_enter Tryd.func36, Tryd.ntmps36
    go_wp2_with fail
    go_ret
    exact ⟨rfl, hB⟩
  · have h' : ¬ a1 < b1 := by omega
    have h'' : decide (a1 < b1) = false := by simp [h']
    go_enter Tryd.func36, Tryd.ntmps36
    go_wp2_with fail
    go_ret
    exact ⟨rfl, hB⟩
  · go_enter Tryd.func36, Tryd.ntmps36
    go_wp2_with fail
    go_ret
    exact ⟨rfl, hB⟩
  · have l1 := less_of h
    have l2 := less_not (tlt_asymm h)
    have g1 : decide (tlt za zb) = true := by simp [h]
    have g2 : decide (tlt zb za) = false := by simp [tlt_asymm h]
    clear h
    go_enter Tryd.func36, Tryd.ntmps36
    go_wp2_with fail
    go_ret
    exact ⟨rfl, hB⟩
  · have l1 := less_of h
    have l2 := less_not (tlt_asymm h)
    have g1 : decide (tlt zb za) = true := by simp [h]
    have g2 : decide (tlt za zb) = false := by simp [tlt_asymm h]
    clear h
    go_enter Tryd.func36, Tryd.ntmps36
    go_wp2_with fail
    go_ret
    exact ⟨rfl, hB⟩
  · have l1 := less_not (tlt_irrefl za)
    have g1 : decide (tlt za za) = false := by simp [tlt_irrefl za]
    go_enter Tryd.func36, Tryd.ntmps36
    go_wp2_with fail
    go_ret
    exact ⟨rfl, hB⟩
  · have q1 : (a0 == 1) = false := by simp [h1]
    have q2 : (a0 == 2) = false := by simp [h2]
    clear h1 h2
    go_enter Tryd.func36, Tryd.ntmps36
    go_wp2_with fail
    go_ret
    exact ⟨rfl, hB⟩
end Go.Proofs.YtobophhlcekngaaDoor
