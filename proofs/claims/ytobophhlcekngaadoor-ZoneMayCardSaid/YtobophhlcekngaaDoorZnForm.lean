/- Contract of the document's Formed of layer 16: has a predicate what its operator has? -/
import Derived.BigQuiet
import Derived.Deep.QuietTactic
import Derived.WalkSmall
import Derived.Test.YtobophhlcekngaaDoorZnCmp
namespace Go.Proofs.YtobophhlcekngaaDoor
open Go.RowKit
set_option linter.unusedVariables false
set_option linter.unusedSimpArgs false
set_option maxRecDepth 100000

theorem eqN (v k : Nat) : ((v : Int) == (k : Int)) = decide (v = k) := by
  rw [Bool.eq_iff_iff]; simp; omega
theorem leN (v k : Nat) : decide ((v : Int) ≤ (k : Int)) = decide (v ≤ k) := by
  rw [Bool.eq_iff_iff]; simp
set_option maxHeartbeats 4000000 in
theorem refFormed_any (op col : Int) (A A' : Option Addr) (v c n c' : Nat) (w : World) :
    Calls Tryd.prog 14 #[.agg #[.int .i64 op, .int .i64 col, .slice A v c, .slice A' n c']] w fun e w' => e = .returned (.bool (decide (frmZ op col v n))) ∧ Below w.heap.size w w' := by
  rw [fmB_is]
  have HC := Lib.hid fun (W : World) => col16_any op W
  have HB : Hid (∀ o, Below w.heap.size w (w.alloc o)) := Lib.hid fun o => (Below.refl _ _).alloc (Nat.le_refl _) o
  obtain ⟨q0, hq0⟩ : ∃ q, decide (col = 0) = q := ⟨_, rfl⟩
  have k0 : (col != 0) = !q0 := by rw [← hq0]; cases h : decide (col = 0) <;> simp_all
  rw [hq0]
  clear hq0
  have hop : op = 0 ∨ op = 1 ∨ op = 2 ∨ op = 3 ∨ op = 4 ∨ op = 5 ∨ op = 6 ∨ op = 7 ∨ op = 8 ∨ op = 9 ∨ op = 10 ∨ op = 11 ∨ op = 12 ∨ (op < 0 ∨ 12 < op) := by omega
  rcases hop with rfl | rfl | rfl | rfl | rfl | rfl | rfl | rfl | rfl | rfl | rfl | rfl | rfl | hop
  · rw [show decide ((1 : Int) ≤ 0 ∧ (0 : Int) ≤ 9) = false from rfl] at HC ⊢
    rw [show fmB 0 v n = (decide (v = 0) && decide (n = 0)) from by simp [fmB]]
    obtain ⟨x0, hx0⟩ : ∃ q, decide (v = 0) = q := ⟨_, rfl⟩
    rw [hx0]
    have y0 : ((v : Int) == 0) = x0 := by rw [← hx0]; exact eqN v 0
    obtain ⟨x1, hx1⟩ : ∃ q, decide (n = 0) = q := ⟨_, rfl⟩
    rw [hx1]
    have y1 : ((n : Int) == 0) = x1 := by rw [← hx1]; exact eqN n 0
    clear hx0 hx1
    cases q0 <;> cases x0 <;> cases x1
    all_goals
      go_enter Tryd.func14, Tryd.ntmps14
      go_wp2_with fail
      go_quiet (fail)
      go_wp2_with fail
      refine (HC.out _).mono ?_
      rintro e w1 ⟨rfl, rfl⟩
      go_wp2_with fail
      go_ret
      exact ⟨rfl, below_drewN (HB.out _) _⟩
  · rw [show decide ((1 : Int) ≤ 1 ∧ (1 : Int) ≤ 9) = true from rfl] at HC ⊢
    rw [show fmB 1 v n = (decide (v = 1) && decide (n = 0)) from by simp [fmB]]
    obtain ⟨x0, hx0⟩ : ∃ q, decide (v = 1) = q := ⟨_, rfl⟩
    rw [hx0]
    have y0 : ((v : Int) == 1) = x0 := by rw [← hx0]; exact eqN v 1
    obtain ⟨x1, hx1⟩ : ∃ q, decide (n = 0) = q := ⟨_, rfl⟩
    rw [hx1]
    have y1 : ((n : Int) == 0) = x1 := by rw [← hx1]; exact eqN n 0
    clear hx0 hx1
    cases x0 <;> cases x1
    all_goals
      go_enter Tryd.func14, Tryd.ntmps14
      go_wp2_with fail
      go_quiet (fail)
      go_wp2_with fail
      refine (HC.out _).mono ?_
      rintro e w1 ⟨rfl, rfl⟩
      go_wp2_with fail
      go_ret
      exact ⟨rfl, below_drewN (HB.out _) _⟩
  · rw [show decide ((1 : Int) ≤ 2 ∧ (2 : Int) ≤ 9) = true from rfl] at HC ⊢
    rw [show fmB 2 v n = (decide (v = 1) && decide (n = 0)) from by simp [fmB]]
    obtain ⟨x0, hx0⟩ : ∃ q, decide (v = 1) = q := ⟨_, rfl⟩
    rw [hx0]
    have y0 : ((v : Int) == 1) = x0 := by rw [← hx0]; exact eqN v 1
    obtain ⟨x1, hx1⟩ : ∃ q, decide (n = 0) = q := ⟨_, rfl⟩
    rw [hx1]
    have y1 : ((n : Int) == 0) = x1 := by rw [← hx1]; exact eqN n 0
    clear hx0 hx1
    cases x0 <;> cases x1
    all_goals
      go_enter Tryd.func14, Tryd.ntmps14
      go_wp2_with fail
      go_quiet (fail)
      go_wp2_with fail
      refine (HC.out _).mono ?_
      rintro e w1 ⟨rfl, rfl⟩
      go_wp2_with fail
      go_ret
      exact ⟨rfl, below_drewN (HB.out _) _⟩
  · rw [show decide ((1 : Int) ≤ 3 ∧ (3 : Int) ≤ 9) = true from rfl] at HC ⊢
    rw [show fmB 3 v n = (decide (v = 1) && decide (n = 0)) from by simp [fmB]]
    obtain ⟨x0, hx0⟩ : ∃ q, decide (v = 1) = q := ⟨_, rfl⟩
    rw [hx0]
    have y0 : ((v : Int) == 1) = x0 := by rw [← hx0]; exact eqN v 1
    obtain ⟨x1, hx1⟩ : ∃ q, decide (n = 0) = q := ⟨_, rfl⟩
    rw [hx1]
    have y1 : ((n : Int) == 0) = x1 := by rw [← hx1]; exact eqN n 0
    clear hx0 hx1
    cases x0 <;> cases x1
    all_goals
      go_enter Tryd.func14, Tryd.ntmps14
      go_wp2_with fail
      go_quiet (fail)
      go_wp2_with fail
      refine (HC.out _).mono ?_
      rintro e w1 ⟨rfl, rfl⟩
      go_wp2_with fail
      go_ret
      exact ⟨rfl, below_drewN (HB.out _) _⟩
  · rw [show decide ((1 : Int) ≤ 4 ∧ (4 : Int) ≤ 9) = true from rfl] at HC ⊢
    rw [show fmB 4 v n = (decide (v = 1) && decide (n = 0)) from by simp [fmB]]
    obtain ⟨x0, hx0⟩ : ∃ q, decide (v = 1) = q := ⟨_, rfl⟩
    rw [hx0]
    have y0 : ((v : Int) == 1) = x0 := by rw [← hx0]; exact eqN v 1
    obtain ⟨x1, hx1⟩ : ∃ q, decide (n = 0) = q := ⟨_, rfl⟩
    rw [hx1]
    have y1 : ((n : Int) == 0) = x1 := by rw [← hx1]; exact eqN n 0
    clear hx0 hx1
    cases x0 <;> cases x1
    all_goals
      go_enter Tryd.func14, Tryd.ntmps14
      go_wp2_with fail
      go_quiet (fail)
      go_wp2_with fail
      refine (HC.out _).mono ?_
      rintro e w1 ⟨rfl, rfl⟩
      go_wp2_with fail
      go_ret
      exact ⟨rfl, below_drewN (HB.out _) _⟩
  · rw [show decide ((1 : Int) ≤ 5 ∧ (5 : Int) ≤ 9) = true from rfl] at HC ⊢
    rw [show fmB 5 v n = (decide (v = 1) && decide (n = 0)) from by simp [fmB]]
    obtain ⟨x0, hx0⟩ : ∃ q, decide (v = 1) = q := ⟨_, rfl⟩
    rw [hx0]
    have y0 : ((v : Int) == 1) = x0 := by rw [← hx0]; exact eqN v 1
    obtain ⟨x1, hx1⟩ : ∃ q, decide (n = 0) = q := ⟨_, rfl⟩
    rw [hx1]
    have y1 : ((n : Int) == 0) = x1 := by rw [← hx1]; exact eqN n 0
    clear hx0 hx1
    cases x0 <;> cases x1
    all_goals
      go_enter Tryd.func14, Tryd.ntmps14
      go_wp2_with fail
      go_quiet (fail)
      go_wp2_with fail
      refine (HC.out _).mono ?_
      rintro e w1 ⟨rfl, rfl⟩
      go_wp2_with fail
      go_ret
      exact ⟨rfl, below_drewN (HB.out _) _⟩
  · rw [show decide ((1 : Int) ≤ 6 ∧ (6 : Int) ≤ 9) = true from rfl] at HC ⊢
    rw [show fmB 6 v n = (decide (v = 1) && decide (n = 0)) from by simp [fmB]]
    obtain ⟨x0, hx0⟩ : ∃ q, decide (v = 1) = q := ⟨_, rfl⟩
    rw [hx0]
    have y0 : ((v : Int) == 1) = x0 := by rw [← hx0]; exact eqN v 1
    obtain ⟨x1, hx1⟩ : ∃ q, decide (n = 0) = q := ⟨_, rfl⟩
    rw [hx1]
    have y1 : ((n : Int) == 0) = x1 := by rw [← hx1]; exact eqN n 0
    clear hx0 hx1
    cases x0 <;> cases x1
    all_goals
      go_enter Tryd.func14, Tryd.ntmps14
      go_wp2_with fail
      go_quiet (fail)
      go_wp2_with fail
      refine (HC.out _).mono ?_
      rintro e w1 ⟨rfl, rfl⟩
      go_wp2_with fail
      go_ret
      exact ⟨rfl, below_drewN (HB.out _) _⟩
  · rw [show decide ((1 : Int) ≤ 7 ∧ (7 : Int) ≤ 9) = true from rfl] at HC ⊢
    rw [show fmB 7 v n = (decide (v ≤ 256) && decide (n = 0)) from by simp [fmB]]
    obtain ⟨x0, hx0⟩ : ∃ q, decide (v ≤ 256) = q := ⟨_, rfl⟩
    rw [hx0]
    have y0 : decide ((v : Int) ≤ 256) = x0 := by rw [← hx0]; exact leN v 256
    obtain ⟨x1, hx1⟩ : ∃ q, decide (n = 0) = q := ⟨_, rfl⟩
    rw [hx1]
    have y1 : ((n : Int) == 0) = x1 := by rw [← hx1]; exact eqN n 0
    clear hx0 hx1
    cases x0 <;> cases x1
    all_goals
      go_enter Tryd.func14, Tryd.ntmps14
      go_wp2_with fail
      go_quiet (fail)
      go_wp2_with fail
      refine (HC.out _).mono ?_
      rintro e w1 ⟨rfl, rfl⟩
      go_wp2_with fail
      go_ret
      exact ⟨rfl, below_drewN (HB.out _) _⟩
  · rw [show decide ((1 : Int) ≤ 8 ∧ (8 : Int) ≤ 9) = true from rfl] at HC ⊢
    rw [show fmB 8 v n = (decide (v = 2) && decide (n = 0)) from by simp [fmB]]
    obtain ⟨x0, hx0⟩ : ∃ q, decide (v = 2) = q := ⟨_, rfl⟩
    rw [hx0]
    have y0 : ((v : Int) == 2) = x0 := by rw [← hx0]; exact eqN v 2
    obtain ⟨x1, hx1⟩ : ∃ q, decide (n = 0) = q := ⟨_, rfl⟩
    rw [hx1]
    have y1 : ((n : Int) == 0) = x1 := by rw [← hx1]; exact eqN n 0
    clear hx0 hx1
    cases x0 <;> cases x1
    all_goals
      go_enter Tryd.func14, Tryd.ntmps14
      go_wp2_with fail
      go_quiet (fail)
      go_wp2_with fail
      refine (HC.out _).mono ?_
      rintro e w1 ⟨rfl, rfl⟩
      go_wp2_with fail
      go_ret
      exact ⟨rfl, below_drewN (HB.out _) _⟩
  · rw [show decide ((1 : Int) ≤ 9 ∧ (9 : Int) ≤ 9) = true from rfl] at HC ⊢
    rw [show fmB 9 v n = (decide (v = 0) && decide (n = 0)) from by simp [fmB]]
    obtain ⟨x0, hx0⟩ : ∃ q, decide (v = 0) = q := ⟨_, rfl⟩
    rw [hx0]
    have y0 : ((v : Int) == 0) = x0 := by rw [← hx0]; exact eqN v 0
    obtain ⟨x1, hx1⟩ : ∃ q, decide (n = 0) = q := ⟨_, rfl⟩
    rw [hx1]
    have y1 : ((n : Int) == 0) = x1 := by rw [← hx1]; exact eqN n 0
    clear hx0 hx1
    cases x0 <;> cases x1
    all_goals
      go_enter Tryd.func14, Tryd.ntmps14
      go_wp2_with fail
      go_quiet (fail)
      go_wp2_with fail
      refine (HC.out _).mono ?_
      rintro e w1 ⟨rfl, rfl⟩
      go_wp2_with fail
      go_ret
      exact ⟨rfl, below_drewN (HB.out _) _⟩
  · rw [show decide ((1 : Int) ≤ 10 ∧ (10 : Int) ≤ 9) = false from rfl] at HC ⊢
    rw [show fmB 10 v n = ((decide (v = 0) && decide (1 ≤ n)) && decide (n ≤ 256)) from by simp [fmB]]
    obtain ⟨x0, hx0⟩ : ∃ q, decide (v = 0) = q := ⟨_, rfl⟩
    rw [hx0]
    have y0 : ((v : Int) == 0) = x0 := by rw [← hx0]; exact eqN v 0
    obtain ⟨x1, hx1⟩ : ∃ q, decide (1 ≤ n) = q := ⟨_, rfl⟩
    rw [hx1]
    have y1 : decide (1 ≤ (n : Int)) = x1 := by rw [← hx1]; exact leN 1 n
    obtain ⟨x2, hx2⟩ : ∃ q, decide (n ≤ 256) = q := ⟨_, rfl⟩
    rw [hx2]
    have y2 : decide ((n : Int) ≤ 256) = x2 := by rw [← hx2]; exact leN n 256
    clear hx0 hx1 hx2
    cases q0 <;> cases x0 <;> cases x1 <;> cases x2
    all_goals
      go_enter Tryd.func14, Tryd.ntmps14
      go_wp2_with fail
      go_quiet (fail)
      go_wp2_with fail
      refine (HC.out _).mono ?_
      rintro e w1 ⟨rfl, rfl⟩
      go_wp2_with fail
      go_ret
      exact ⟨rfl, below_drewN (HB.out _) _⟩
  · rw [show decide ((1 : Int) ≤ 11 ∧ (11 : Int) ≤ 9) = false from rfl] at HC ⊢
    rw [show fmB 11 v n = ((decide (v = 0) && decide (1 ≤ n)) && decide (n ≤ 256)) from by simp [fmB]]
    obtain ⟨x0, hx0⟩ : ∃ q, decide (v = 0) = q := ⟨_, rfl⟩
    rw [hx0]
    have y0 : ((v : Int) == 0) = x0 := by rw [← hx0]; exact eqN v 0
    obtain ⟨x1, hx1⟩ : ∃ q, decide (1 ≤ n) = q := ⟨_, rfl⟩
    rw [hx1]
    have y1 : decide (1 ≤ (n : Int)) = x1 := by rw [← hx1]; exact leN 1 n
    obtain ⟨x2, hx2⟩ : ∃ q, decide (n ≤ 256) = q := ⟨_, rfl⟩
    rw [hx2]
    have y2 : decide ((n : Int) ≤ 256) = x2 := by rw [← hx2]; exact leN n 256
    clear hx0 hx1 hx2
    cases q0 <;> cases x0 <;> cases x1 <;> cases x2
    all_goals
      go_enter Tryd.func14, Tryd.ntmps14
      go_wp2_with fail
      go_quiet (fail)
      go_wp2_with fail
      refine (HC.out _).mono ?_
      rintro e w1 ⟨rfl, rfl⟩
      go_wp2_with fail
      go_ret
      exact ⟨rfl, below_drewN (HB.out _) _⟩
  · rw [show decide ((1 : Int) ≤ 12 ∧ (12 : Int) ≤ 9) = false from rfl] at HC ⊢
    rw [show fmB 12 v n = (decide (v = 0) && decide (n = 1)) from by simp [fmB]]
    obtain ⟨x0, hx0⟩ : ∃ q, decide (v = 0) = q := ⟨_, rfl⟩
    rw [hx0]
    have y0 : ((v : Int) == 0) = x0 := by rw [← hx0]; exact eqN v 0
    obtain ⟨x1, hx1⟩ : ∃ q, decide (n = 1) = q := ⟨_, rfl⟩
    rw [hx1]
    have y1 : ((n : Int) == 1) = x1 := by rw [← hx1]; exact eqN n 1
    clear hx0 hx1
    cases q0 <;> cases x0 <;> cases x1
    all_goals
      go_enter Tryd.func14, Tryd.ntmps14
      go_wp2_with fail
      go_quiet (fail)
      go_wp2_with fail
      refine (HC.out _).mono ?_
      rintro e w1 ⟨rfl, rfl⟩
      go_wp2_with fail
      go_ret
      exact ⟨rfl, below_drewN (HB.out _) _⟩
  · have hq : decide (1 ≤ op ∧ op ≤ 9) = false := by simp; omega
    rw [hq] at HC ⊢
    have hf : fmB op v n = false := by
      unfold fmB
      rw [if_neg (by omega), if_neg (by omega), if_neg (by omega), if_neg (by omega), if_neg (by omega), if_neg (by omega)]
    rw [hf]
    have e0 : (op == 0) = false := by simp; omega
    have e1 : (op == 1) = false := by simp; omega
    have e2 : (op == 2) = false := by simp; omega
    have e3 : (op == 3) = false := by simp; omega
    have e4 : (op == 4) = false := by simp; omega
    have e5 : (op == 5) = false := by simp; omega
    have e6 : (op == 6) = false := by simp; omega
    have e7 : (op == 7) = false := by simp; omega
    have e8 : (op == 8) = false := by simp; omega
    have e9 : (op == 9) = false := by simp; omega
    have e10 : (op == 10) = false := by simp; omega
    have e11 : (op == 11) = false := by simp; omega
    have e12 : (op == 12) = false := by simp; omega
    clear hq hf hop
    cases q0
    all_goals
      go_enter Tryd.func14, Tryd.ntmps14
      go_wp2_with fail
      go_quiet (fail)
      go_wp2_with fail
      refine (HC.out _).mono ?_
      rintro e w1 ⟨rfl, rfl⟩
      go_wp2_with fail
      go_ret
      exact ⟨rfl, below_drewN (HB.out _) _⟩
end Go.Proofs.YtobophhlcekngaaDoor
