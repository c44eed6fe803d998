/- The document's reading of the form by a list: the numbers, or the error's number. -/
import Derived.Deep.QuietTactic
import Derived.BigQuiet
import Derived.Laws.OwnMore
import Derived.Test.YtppeagjklndidaaGreatDoorJ37
import Derived.Test.YtppeagjklndidaaGreatDoorDcRefList
import Derived.Test.YtppeagjklndidaaGreatDoorJ39
import Derived.Test.YtppeagjklndidaaGreatDoorJ41
import Derived.Test.YtppeagjklndidaaGreatDoorJ42
import Derived.Test.YtppeagjklndidaaGreatDoorRefUnpack
namespace Go.Proofs.YtppeagjklndidaaGreatDoor
open Go.RowKit
set_option linter.unusedVariables false
set_option linter.unusedSimpArgs false
set_option maxRecDepth 100000

theorem refDcGet_no (A : Option Addr) (n c : Nat) (b : List Nat) (k : Int) (w : World) (h : k < 0 ∨ 65536 < k) :
    Calls Tryz.prog 7 #[.slice A n c, .int .i64 k] w (NewLE w (dcG b k) (dcE b k)) := by
  obtain ⟨h1, h2⟩ := dcE_bad (b := b) h
  rw [h1, h2]
  clear h1 h2
  by_cases hk : k < 0
  · clear h
    go_enter Tryz.func7, Tryz.ntmps7
    go_wp2_with fail
    go_ret2
    exact ⟨.slice none 0 0, rfl, own_nil _ _ _ _, Below.refl _ _⟩
  · have d1 : decide (k < 0) = false := by simp; omega
    have h2 : 65536 < k := by omega
    clear h
    go_enter Tryz.func7, Tryz.ntmps7
    go_wp2_with fail
    go_ret2
    exact ⟨.slice none 0 0, rfl, own_nil _ _ _ _, Below.refl _ _⟩
theorem rvar_first {w : World} {g : Nat} {b : List Nat} (h : RfS w g b 0 none) :
    Calls Tryz.prog 17 #[.pointer (some ⟨g, 0, none⟩)] w fun e w' => e = .returned (.int .u64 (vv b 0 : Int)) ∧ RfTo w g b (vst b 1).1 (vst b 1).2 w' := rvar_is h
theorem dcG_err {b : List Nat} {k : Int} (h : dcE b k ≠ 0) : dcG b k = [] := by unfold dcG; rw [if_neg h]
set_option maxHeartbeats 1000000 in
theorem refDcGet_err (A : Option Addr) (n c N : Nat) (b : List Nat) (y : Int × Nat) (w : World) (hr : Reads w w.heap.size 1 A n (bs b)) (hb : ∀ x ∈ b, x < 256) (hnc : n ≤ c) (hn : n ≤ 140737488355328) (hN : N ≤ 65536) (hx : (vst b 1).2 = some y) :
    Calls Tryz.prog 7 #[.slice A n c, .int .i64 (N : Int)] w (NewLE w (dcG b (N : Int)) (dcE b (N : Int))) := by
  have hE := dcE_var hN hx
  have hy := vst_ok b 1 y hx
  have hG := dcG_err (b := b) (k := (N : Int)) (by rw [hE]; exact hy)
  have hv := vv_err hx
  rw [hE, hG]
  have d1 : decide ((N : Int) < 0) = false := by simp
  have d2 : decide ((65536 : Int) < (N : Int)) = false := by simp; omega
  have hS1 := rf_new hr hnc hn hb
  have HV := Lib.hid (rvar_first hS1)
  rw [hv, hx] at HV
  obtain ⟨y1, hy1⟩ : ∃ r, r = y.1 := ⟨_, rfl⟩
  obtain ⟨a1, ha1⟩ : ∃ a, a = (vst b 1).1 := ⟨_, rfl⟩
  rw [← ha1] at HV
  rw [← hy1] at hy ⊢
  have HY := Lib.hid hy1
  have q1 : (y1 != 0) = true := by simp [hy]
  have q2 : (y1 == 0) = false := by simp [hy]
  clear hE hG hx hy1 hb hy hv ha1
  go_enter Tryz.func7, Tryz.ntmps7
  go_wp2_with fail
  refine HV.out.mono ?_
  rintro e w3 ⟨rfl, hS3, hG3⟩
  have hb3 : Below w.heap.size w w3 := ((Below.refl _ _).alloc (Nat.le_refl _) _).grown hG3 (by simp) (fun j hj => by injection hj with hj; omega)
  have hc2 : w3.cell? ⟨w.heap.size, 2, none⟩ = some (.int .i64 y1) := by rw [hS3.cellE, HY.out]; rfl
  clear hS1 hG3 HV
  go_wp2_with fail
  go_loopw [9] (fun s9 wr => s9 = .int .i64 0 ∧ wr = w3) (fun _ _ => 0)
  case atStart => exact ⟨rfl, rfl⟩
  case round =>
    obtain ⟨rfl, rfl⟩ := hrel
    go_wp2_with fail
    refine (rfix_is 1 hS3).mono ?_
    rintro e w4 ⟨rfl, hS4, hG4⟩
    have hb4 := hb3.grown hG4 hb3.size (fun j hj => by injection hj with hj; omega)
    have hc4 : w4.cell? ⟨w.heap.size, 2, none⟩ = some (.int .i64 y1) := by rw [hS4.cellE, HY.out]; rfl
    clear hS3 hG4 hS4 hc2 hb3
    go_wp2_with fail
    go_quiet (fail)
    go_wp2_with fail
    go_ret2
    exact ⟨.slice none 0 0, rfl, own_nil _ _ _ _, (Drawn.one _ _).below hb4⟩
set_option maxHeartbeats 1000000 in
theorem refDcGet_cnt (A : Option Addr) (n c N : Nat) (b : List Nat) (w : World) (hr : Reads w w.heap.size 1 A n (bs b)) (hb : ∀ x ∈ b, x < 256) (hnc : n ≤ c) (hn : n ≤ 140737488355328) (hN : N ≤ 65536) (hx : (vst b 1).2 = none) (hcn : N < vv b 0) :
    Calls Tryz.prog 7 #[.slice A n c, .int .i64 (N : Int)] w (NewLE w (dcG b (N : Int)) (dcE b (N : Int))) := by
  have hE := dcE_cnt hN hx hcn
  have hG := dcG_err (b := b) (k := (N : Int)) (by rw [hE]; decide)
  rw [hE, hG]
  have d1 : decide ((N : Int) < 0) = false := by simp
  have d2 : decide ((65536 : Int) < (N : Int)) = false := by simp; omega
  have hNw : IntKind.u64.wrap (N : Int) = (N : Int) := IntWalk.u64_in _ (by omega)
  have hS1 := rf_new hr hnc hn hb
  have hv := vv_lt hb 0
  have HV := Lib.hid (rvar_first hS1)
  rw [hx] at HV
  obtain ⟨v0, hv0⟩ : ∃ v, v = vv b 0 := ⟨_, rfl⟩
  obtain ⟨a1, ha1⟩ : ∃ a, a = (vst b 1).1 := ⟨_, rfl⟩
  rw [← ha1, ← hv0] at HV
  rw [← hv0] at hcn hv
  clear hE hG hx hb hv0 ha1
  go_enter Tryz.func7, Tryz.ntmps7
  go_wp2_with fail
  refine HV.out.mono ?_
  rintro e w3 ⟨rfl, hS3, hG3⟩
  have hb3 : Below w.heap.size w w3 := ((Below.refl _ _).alloc (Nat.le_refl _) _).grown hG3 (by simp) (fun j hj => by injection hj with hj; omega)
  have hc2 : w3.cell? ⟨w.heap.size, 2, none⟩ = some (.int .i64 0) := hS3.cellE
  clear hS1 hG3 HV
  go_wp2_with fail
  go_ret2
  exact ⟨.slice none 0 0, rfl, own_nil _ _ _ _, hb3⟩
end Go.Proofs.YtppeagjklndidaaGreatDoor
