/- Contracts of the document's cmp of layer 17 and Formed of layer 16. -/
import Derived.BigQuiet
import Derived.Deep.QuietTactic
import Derived.Test.YtobophhlcekngaaDoorJ3
import Derived.Test.YtobophhlcekngaaDoorVlRefCmp
namespace Go.Proofs.YtobophhlcekngaaDoor
open Go.RowKit
set_option linter.unusedVariables false
set_option linter.unusedSimpArgs false
set_option maxRecDepth 100000

theorem cmp17_any (a b : Vl) (w : World) : Calls Tryd.prog 24 #[vW a, vW b] w fun e w' => e = .returned (.int .i64 (cmpV a b)) ∧ Below w.heap.size w w' := by
  have HC := Lib.hid fun (W : World) => refCmp_any a b W
  obtain ⟨a0, a1, za⟩ := a
  obtain ⟨b0, b1, zb⟩ := b
  obtain ⟨k, hk⟩ : ∃ k, cmpV (a0, a1, za) (b0, b1, zb) = k := ⟨_, rfl⟩
  rw [hk] at HC ⊢
  rw [show vW (a0, a1, za) = .agg #[.int .i64 a0, .int .i64 a1, .string ⟨za.toArray⟩] from rfl, show vW (b0, b1, zb) = .agg #[.int .i64 b0, .int .i64 b1, .string ⟨zb.toArray⟩] from rfl] at HC ⊢
  clear hk
  go_enter Tryd.func24, Tryd.ntmps24
  go_wp2_with fail
  refine (HC.out _).mono ?_
  rintro e w1 ⟨rfl, hb⟩
  go_wp2_with fail
  go_ret
  refine ⟨rfl, ?_⟩
  exact (((Below.refl w.heap.size w).alloc (Nat.le_refl _) _).alloc (by simp) _).trans (hb.mono (by simp; omega))
theorem col16_any (op : Int) (w : World) : Calls Tryd.prog 23 #[.int .i64 op] w fun e w' => e = .returned (.bool (decide (1 ≤ op ∧ op ≤ 9))) ∧ w = w' := by
  obtain ⟨b1, d1⟩ : ∃ q, decide ((1 : Int) ≤ op) = q := ⟨_, rfl⟩
  obtain ⟨b2, d2⟩ : ∃ q, decide (op ≤ 9) = q := ⟨_, rfl⟩
  have d3 : decide (1 ≤ op ∧ op ≤ 9) = (b1 && b2) := by rw [← d1, ← d2, Bool.decide_and]
  rw [d3]
  clear d3
  cases b1 <;> cases b2
  all_goals
    go_enter Tryd.func23, Tryd.ntmps23
    go_wp2_with fail
    go_ret
    exact ⟨rfl, rfl⟩
/-- Has a predicate what its operator has, by the document's own reckoning? -/
def fmB (op : Int) (v n : Nat) : Bool :=
  if op = 0 ∨ op = 9 then decide (v = 0) && decide (n = 0)
  else if 1 ≤ op ∧ op ≤ 6 then decide (v = 1) && decide (n = 0)
  else if op = 7 then decide (v ≤ 256) && decide (n = 0)
  else if op = 8 then decide (v = 2) && decide (n = 0)
  else if op = 10 ∨ op = 11 then (decide (v = 0) && decide (1 ≤ n)) && decide (n ≤ 256)
  else if op = 12 then decide (v = 0) && decide (n = 1)
  else false
theorem fmB_is (op col : Int) (v n : Nat) : decide (frmZ op col v n) = (!(!(decide (1 ≤ op ∧ op ≤ 9)) && !(decide (col = 0))) && fmB op v n) := by
  rw [Bool.eq_iff_iff, decide_eq_true_iff]
  unfold frmZ fmB
  split
  · simp only [Bool.and_eq_true, Bool.not_eq_true', decide_eq_true_iff, Bool.and_eq_false_iff, Bool.not_eq_false', decide_eq_false_iff_not, Bool.not_eq_true]
    omega
  · split
    · simp only [Bool.and_eq_true, Bool.not_eq_true', decide_eq_true_iff, Bool.and_eq_false_iff, Bool.not_eq_false', decide_eq_false_iff_not, Bool.not_eq_true]
      omega
    · split
      · simp only [Bool.and_eq_true, Bool.not_eq_true', decide_eq_true_iff, Bool.and_eq_false_iff, Bool.not_eq_false', decide_eq_false_iff_not, Bool.not_eq_true]
        omega
      · split
        · simp only [Bool.and_eq_true, Bool.not_eq_true', decide_eq_true_iff, Bool.and_eq_false_iff, Bool.not_eq_false', decide_eq_false_iff_not, Bool.not_eq_true]
          omega
        · split
          · simp only [Bool.and_eq_true, Bool.not_eq_true', decide_eq_true_iff, Bool.and_eq_false_iff, Bool.not_eq_false', decide_eq_false_iff_not, Bool.not_eq_true]
            omega
          · split
            · simp only [Bool.and_eq_true, Bool.not_eq_true', decide_eq_true_iff, Bool.and_eq_false_iff, Bool.not_eq_false', decide_eq_false_iff_not, Bool.not_eq_true]
              omega
            · simp only [Bool.and_false, Bool.false_eq_true, iff_false]
              omega
end Go.Proofs.YtobophhlcekngaaDoor
