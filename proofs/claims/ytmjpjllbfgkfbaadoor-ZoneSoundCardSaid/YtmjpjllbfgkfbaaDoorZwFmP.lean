/- Contracts of pred's isOperator and isFormed; of faultOf at zero values. -/
import Derived.Deep.QuietTactic
import Derived.BigQuiet
import Derived.Deep.DeepCutAuto
import Derived.Test.YtmjpjllbfgkfbaaDoorJ3
namespace Go.Proofs.YtmjpjllbfgkfbaaDoor
open Go.RowKit
set_option linter.unusedVariables false
set_option linter.unusedSimpArgs false
set_option maxRecDepth 100000

theorem isOp_any (op : Int) (w : World) : Calls Tryd.prog 47 #[.int .i64 op] w fun e w' => e = .returned (.bool (decide (0 ≤ op ∧ op < 13))) ∧ w = w' := by
  by_cases h : 0 ≤ op
  · have d1 : decide (0 ≤ op) = true := by simpa using h
    rw [show decide (0 ≤ op ∧ op < 13) = decide (op < 13) by simp [h]]
    clear h
    go_enter Tryd.func47, Tryd.ntmps47
    go_wp2_with fail
    go_ret
    exact ⟨by first | rfl | simp, rfl⟩
  · have d1 : decide (0 ≤ op) = false := by simpa using h
    rw [show decide (0 ≤ op ∧ op < 13) = false by simp [h]]
    clear h
    go_enter Tryd.func47, Tryd.ntmps47
    go_wp2_with fail
    go_ret
    exact ⟨by first | rfl | simp, rfl⟩
/-- Has a predicate what its operator has, by the table? -/
def fmP (op col : Int) (nv np : Nat) : Bool :=
  if 0 ≤ op ∧ op < 13 then (decide ((shV op.toNat).1 ≤ (nv : Int) ∧ (nv : Int) ≤ (shV op.toNat).2) && decide ((shN op.toNat).1 ≤ (np : Int) ∧ (np : Int) ≤ (shN op.toNat).2)) && (shB op.toNat || decide (col = 0)) else false
theorem fmP_is (op col : Int) (nv np : Nat) : fmP op col nv np = decide (frmZ op col nv np) := by
  rw [Bool.eq_iff_iff, decide_eq_true_iff]
  unfold fmP frmZ
  by_cases h : 0 ≤ op ∧ op < 13
  · rw [if_pos h]
    have hop : op = 0 ∨ op = 1 ∨ op = 2 ∨ op = 3 ∨ op = 4 ∨ op = 5 ∨ op = 6 ∨ op = 7 ∨ op = 8 ∨ op = 9 ∨ op = 10 ∨ op = 11 ∨ op = 12 := by omega
    rcases hop with rfl | rfl | rfl | rfl | rfl | rfl | rfl | rfl | rfl | rfl | rfl | rfl | rfl <;> simp [shV, shN, shB] <;> omega
  · rw [if_neg h]
    simp only [Bool.false_eq_true, false_iff]
    omega
section
variable {b o nv c np c' : Nat} {col : Int} {A A' : Option Addr} {w : World}
set_option maxHeartbeats 2000000 in
theorem formed_no {op : Int} (h : Nd w b o op col A nv c A' np c') (hop : ¬ (0 ≤ op ∧ op < 13)) : Calls Tryd.prog 33 #[.pointer (some ⟨b, o, none⟩)] w fun e w' => e = .returned (.bool (fmP op col nv np)) ∧ Below w.heap.size w w' := by
  rw [show fmP op col nv np = false by unfold fmP; rw [if_neg hop]]
  obtain ⟨hlt, x0, x1, x2, x3⟩ := h
  have z0 := cell_regrown x0; have z1 := cell_regrown x1; have z2 := cell_regrown x2; have z3 := cell_regrown x3
  have YO : Hid (Yields w.heap.size w 47 #[.int .i64 op] (.bool false)) := Lib.hid fun V hb => (isOp_any op V).mono fun e w' ⟨he, hw⟩ => ⟨by rw [he]; simp only [hop, decide_false], hw ▸ hb⟩
  clear hop
  go_enter Tryd.func33, Tryd.ntmps33
  go_wp2_with fail
  refine wp_region_quiet_below (by kernel_rfl) (by kernel_rfl) ?_
  repeat (go_big_quiet_step (first | (go_at_call 47; with_reducible exact YO.out.quiet _ _)))
  refine wpQuiet_nil ?_
  intro V hV
  have hbp : Below w.heap.size w V := by obtain ⟨pp, e⟩ := hV; subst e; exact below_regrown w pp.d pp.os
  clear hV YO z0 z1 z2 z3
  go_wp2_with fail
  go_ret
  exact ⟨ret_of (by rfl), hbp⟩
set_option maxHeartbeats 4000000 in
theorem formed_op (k : Nat) (hk : k < 13) (h : Nd w b o (k : Int) col A nv c A' np c') (hs : Shp w) : Calls Tryd.prog 33 #[.pointer (some ⟨b, o, none⟩)] w fun e w' => e = .returned (.bool (fmP (k : Int) col nv np)) ∧ Below w.heap.size w w' := by
  obtain ⟨hlt, x0, x1, x2, x3⟩ := h
  obtain ⟨s0, s1, s2, s3, s4⟩ := hs k hk
  have hf : fmP (k : Int) col nv np = ((decide ((shV k).1 ≤ (nv : Int) ∧ (nv : Int) ≤ (shV k).2) && decide ((shN k).1 ≤ (np : Int) ∧ (np : Int) ≤ (shN k).2)) && (shB k || decide (col = 0))) := by
    unfold fmP
    rw [if_pos (by omega), Int.toNat_natCast]
  rw [hf]
  have z0 := cell_regrown x0; have z1 := cell_regrown x1; have z2 := cell_regrown x2; have z3 := cell_regrown x3
  have hv := fun V => has_any (shV k).1 (shV k).2 (nv : Int) V
  have hn := fun V => has_any (shN k).1 (shN k).2 (np : Int) V
  obtain ⟨a, ha⟩ : ∃ a, decide ((shV k).1 ≤ (nv : Int) ∧ (nv : Int) ≤ (shV k).2) = a := ⟨_, rfl⟩
  obtain ⟨d, hd⟩ : ∃ d, decide ((shN k).1 ≤ (np : Int) ∧ (np : Int) ≤ (shN k).2) = d := ⟨_, rfl⟩
  rw [ha] at hv ⊢
  rw [hd] at hn ⊢
  clear ha hd
  obtain ⟨v0, hv0⟩ : ∃ q, (shV k).1 = q := ⟨_, rfl⟩
  obtain ⟨v1, hv1⟩ : ∃ q, (shV k).2 = q := ⟨_, rfl⟩
  obtain ⟨n0, hn0⟩ : ∃ q, (shN k).1 = q := ⟨_, rfl⟩
  obtain ⟨n1, hn1⟩ : ∃ q, (shN k).2 = q := ⟨_, rfl⟩
  obtain ⟨sb, hsb⟩ : ∃ q, shB k = q := ⟨_, rfl⟩
  rw [hv0] at hv s1
  rw [hv1] at hv s2
  rw [hn0] at hn s3
  rw [hn1] at hn s4
  rw [hsb] at s0 ⊢
  clear hv0 hv1 hn0 hn1 hsb hs hf
  have t0 := cell_regrown s0; have t1 := cell_regrown s1; have t2 := cell_regrown s2; have t3 := cell_regrown s3; have t4 := cell_regrown s4
  have YO : Hid (Yields w.heap.size w 47 #[.int .i64 (k : Int)] (.bool true)) := Lib.hid fun V hb => (isOp_any (k : Int) V).mono fun e w' ⟨he, hw⟩ => ⟨by rw [he]; congr 2; simp; omega, hw ▸ hb⟩
  have YV : Hid (Yields w.heap.size w 48 #[.agg #[.int .i64 v0, .int .i64 v1], .int .i64 (nv : Int)] (.bool a)) := Lib.hid fun V hb => (hv V).mono fun e w' ⟨he, hw⟩ => ⟨he, hb.trans (hw.mono hb.size)⟩
  have YN : Hid (Yields w.heap.size w 48 #[.agg #[.int .i64 n0, .int .i64 n1], .int .i64 (np : Int)] (.bool d)) := Lib.hid fun V hb => (hn V).mono fun e w' ⟨he, hw⟩ => ⟨he, hb.trans (hw.mono hb.size)⟩
  have d4 : decide ((k : Int) < 0) = false := by simp
  have d5 : decide (13 ≤ (k : Int)) = false := by simp; omega
  have hq : (col == 0) = decide (col = 0) := by rw [Bool.eq_iff_iff]; simp
  obtain ⟨q, hq2⟩ : ∃ q, decide (col = 0) = q := ⟨_, rfl⟩
  rw [hq2] at hq ⊢
  clear hv hn hq2 s0 s1 s2 s3 s4 x0 x1 x2 x3
  have hc : a = false ∨ (a = true ∧ d = false) ∨ (a = true ∧ d = true ∧ sb = true) ∨ (a = true ∧ d = true ∧ sb = false) := by cases a <;> cases d <;> cases sb <;> simp
  rcases hc with rfl | ⟨rfl, rfl⟩ | ⟨rfl, rfl, rfl⟩ | ⟨rfl, rfl, rfl⟩
  all_goals
    go_enter Tryd.func33, Tryd.ntmps33
    go_wp2_with fail
    refine wp_region_quiet_below (by kernel_rfl) (by kernel_rfl) ?_
    repeat (go_big_quiet_step (first | (go_at_call 47; with_reducible exact YO.out.quiet _ _) | (go_at_call 48; first | with_reducible exact YV.out.quiet _ _ | with_reducible exact YN.out.quiet _ _)))
    refine wpQuiet_nil ?_
    intro V hV
    have hbp : Below w.heap.size w V := by obtain ⟨pp, e⟩ := hV; subst e; exact below_regrown w pp.d pp.os
    clear hV YO YV YN z0 z1 z2 z3 t0 t1 t2 t3 t4
    go_wp2_with fail
    go_ret
    exact ⟨by first | rfl | simp, hbp⟩
theorem formedP_any {op : Int} (h : Nd w b o op col A nv c A' np c') (hs : Shp w) : Calls Tryd.prog 33 #[.pointer (some ⟨b, o, none⟩)] w fun e w' => e = .returned (.bool (fmP op col nv np)) ∧ Below w.heap.size w w' := by
  by_cases hop : 0 ≤ op ∧ op < 13
  · obtain ⟨k, rfl⟩ : ∃ k : Nat, op = (k : Int) := ⟨op.toNat, by omega⟩
    exact formed_op k (by omega) h hs
  · exact formed_no h hop
end
end Go.Proofs.YtmjpjllbfgkfbaaDoor
