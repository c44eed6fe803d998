/- Contract of package crc's remainders: the table of 256, by value. -/
import Derived.Test.YtpibekpddbhojaaDoorCrcStep
import Derived.Test.YtpibekpddbhojaaDoorWhole
namespace Go.Proofs.YtpibekpddbhojaaDoor
open Go.RowKit
set_option linter.unusedVariables false
set_option maxRecDepth 100000

/-- The table when 'n' places are filled. -/
def tabV (n : Nat) : Array Value := Array.ofFn (n := 256) fun i => Value.int .u32 ((if i.val < n then sts 8 i.val else 0 : Nat) : Int)
theorem tabV_size (n : Nat) : (tabV n).size = 256 := by simp [tabV]
theorem tabV_zero : tabV 0 = Array.replicate 256 (.int .u32 0) := by
  apply Array.ext
  · simp [tabV]
  · intro i h1 h2
    simp [tabV]
theorem tabV_one (n : Nat) : (tabV n).all (·.oneCell') = true := by
  rw [Array.all_eq_true]
  intro i h
  simp [tabV]
  rfl
theorem tabV_next (n : Nat) (h : n < 256) : (tabV n).setIfInBounds n (.int .u32 ((sts 8 n : Nat) : Int)) = tabV (n + 1) := by
  apply Array.ext
  · simp [tabV]
  · intro i h1 h2
    rw [Array.getElem_setIfInBounds (by rw [tabV_size]; simpa [tabV] using h2)]
    by_cases hi : n = i
    · subst hi
      simp [tabV]
    · rw [if_neg hi]
      have e : (i < n) = (i < n + 1) := propext (by omega)
      simp [tabV, e]
theorem tabV_at (i : Nat) (h : i < 256) : (tabV 256)[i]? = some (.int .u32 ((sts 8 i : Nat) : Int)) := by
  rw [Array.getElem?_eq_getElem (by rw [tabV_size]; exact h)]
  simp [tabV]
theorem tabV_old (n : Nat) (h : n < 256) : (tabV n)[n]? = some (.int .u32 0) := by
  rw [Array.getElem?_eq_getElem (by rw [tabV_size]; exact h)]
  simp [tabV]
attribute [irreducible] tabV
theorem info_tab : (Tryd.prog.info? 75).map (fun i => (i.zero, i.size)) = some (some (.agg (Array.replicate 256 (.int .u32 0))), 256) := by kernel_rfl

set_option maxHeartbeats 1000000 in
theorem remainders_any (w : World) : Calls Tryd.prog 37 #[] w fun e w' => e = .returned (.agg (tabV 256)) ∧ Below w.heap.size w w' := by
  have hz := (zero_of_info info_tab).1
  have hsz := Lib.hid (zero_of_info info_tab).2
  go_enter Tryd.func37, Tryd.ntmps37
  go_wp2_with fail
  rw [← tabV_zero]
  go_loopg [4] 256 (fun g s4 wx => ∃ i : Nat, i + g = 256 ∧ s4 = .int .i64 (i : Int) ∧ wx = (w.alloc (.cells (tabV 0) 75)).alloc (.cells (tabV i) 75))
  case atStart => exact ⟨0, by omega, rfl, rfl⟩
  case round =>
    obtain ⟨i, hig, rfl, rfl⟩ := hrel
    cases gk with
    | zero =>
      obtain rfl : i = 256 := by omega
      clear hig
      have hB1 : Blk ((w.alloc (.cells (tabV 0) 75)).alloc (.cells (tabV 256) 75)) (w.heap.size + 1) 75 (tabV 256) := by
        have h := Blk.new (w.alloc (.cells (tabV 0) 75)) 75 (tabV 256)
        simpa using h
      have hB0 : Blk ((w.alloc (.cells (tabV 0) 75)).alloc (.cells (tabV 256) 75)) w.heap.size 75 (tabV 0) := (Blk.new w _ _).alloc _
      have hb : Below w.heap.size w ((w.alloc (.cells (tabV 0) 75)).alloc (.cells (tabV 256) 75)) := ((Below.refl _ _).alloc (Nat.le_refl _) _).alloc (by simp) _
      obtain ⟨w1, hw1⟩ : ∃ w1 : World, w1 = (w.alloc (.cells (tabV 0) 75)).alloc (.cells (tabV 256) 75) := ⟨_, rfl⟩
      rw [← hw1] at hB1 hB0 hb
      rw [← hw1]
      clear hw1
      go_wp2_with fail
      refine wp_load_row _ rfl rfl hB1 Tryd.underlying75 (by rw [tabV_size]; exact hsz.out) ?_
      have hsc := run_storeCells_row (P := Tryd.prog) (cs' := tabV 256) hB0 (by rw [tabV_size]; exact hsz.out) (by rw [tabV_size, tabV_size]) (tabV_one _)
      have hts := tabV_size 256
      go_wp2_with fail
      have hld := run_loadVar_row (P := Tryd.prog) (w1.setRow w.heap.size (tabV 256)) w.heap.size 75 75 (tabV 256) (0, 0) _ (hB0.row _) Tryd.underlying75 rfl (by rw [tabV_size]; exact hsz.out)
      have hb2 := Below.row hb (Nat.le_refl _) (tabV 256)
      obtain ⟨w2, hw2⟩ : ∃ w2 : World, w2 = w1.setRow w.heap.size (tabV 256) := ⟨_, rfl⟩
      rw [← hw2] at hld hb2
      rw [← hw2]
      clear hw2
      refine bodyPost_ret (v := .agg (tabV 256)) ?_ rfl ⟨rfl, hb2⟩
      rw [results_cell rfl]
      simp [asAddr, Result.andThen, hld]
    | succ g =>
      have hi : i < 256 := by omega
      have hi2 : (i : Int) < 256 := by omega
      go_wp2_with fail
      go_loopg [3, 9] 8 (fun g s3 s9 wx => ∃ k : Nat, k + g = 8 ∧ s3 = .int .u32 ((sts k i : Nat) : Int) ∧ s9 = .int .i64 (k : Int) ∧ wx = (w.alloc (.cells (tabV 0) 75)).alloc (.cells (tabV i) 75))
      case atStart => exact ⟨0, by omega, by first | rfl | go_num, rfl, rfl⟩
      case round =>
        obtain ⟨k, hkg, rfl, rfl, rfl⟩ := hrel
        cases gk with
        | zero =>
          obtain rfl : k = 8 := by omega
          clear hkg
          have hold := tabV_old i hi
          go_wp2_with fail
          rw [tabV_next i hi]
          go_roundg g
          case measure => omega
          case rel => exact ⟨i + 1, by omega, by go_num, rfl⟩
        | succ g2 =>
          have hk : k < 8 := by omega
          have hk2 : (k : Int) < 8 := by omega
          go_wp2_with fail
          refine (step_any (sts k i) _ (sts_lt k (by omega))).mono ?_
          rintro e w' ⟨rfl, rfl⟩
          go_wp2_with fail
          go_roundg g2
          case measure => omega
          case rel => exact ⟨k + 1, by omega, by rw [sts_snoc], by go_num, rfl⟩
end Go.Proofs.YtpibekpddbhojaaDoor
