/- Contract of package tree's Path where there is no such leaf. No condition. -/
import Derived.Test.YtkopoepoinkpeaaDoorTrPath
namespace Go.Proofs.YtkopoepoinkpeaaDoor
open Go.RowKit
set_option linter.unusedVariables false
set_option linter.unusedSimpArgs false
set_option maxRecDepth 100000
attribute [local go_sem] Oper.semAt_some wide_fn wide_depth

set_option maxHeartbeats 2000000 in
theorem path_out (A : Option Addr) (n c : Nat) (i : Int) (w : World) (hn2 : n ≤ 1000000) (ho : i < 0 ∨ (n : Int) ≤ i) :
    Calls Tryd.prog 9 #[.slice A n c, .int .i64 i] w fun e w' => e = .returned (.tuple #[.slice none 0 0, .bool false]) ∧ Below w.heap.size w w' := by
  refine (callsIn_wide (n := 0)).1 ?_
  refine callsIn_of_wp_marks Tryd.func9 rfl trivial ?_ rfl
  simp only [Tryd.ntmps9, List.size_toArray, List.length_cons, List.length_nil, Nat.reduceAdd, Nat.reduceSub, Array.replicate_succ, Array.replicate_zero, List.push_toArray, List.append_toArray, List.nil_append, List.cons_append]
  have HDEP := Lib.hid fun W => depth_any i (n : Int) W (by omega) (by omega)
  simp only [depI_out ho] at HDEP
  have k0 := Blk.new w 3 #[.int .i64 i]
  have b0 := (Below.refl w.heap.size w).alloc (Nat.le_refl _) (.cells #[.int .i64 i] 3)
  obtain ⟨h, hh⟩ : ∃ h, w.heap.size = h := ⟨_, rfl⟩
  obtain ⟨W0, hW0⟩ : ∃ W0, w.alloc (.cells #[.int .i64 i] 3) = W0 := ⟨_, rfl⟩
  rw [hh, hW0] at k0 b0
  have y0 : W0.cell? ⟨h, 0, none⟩ = some (.int .i64 i) := k0.cell 0
  have HB0 := Lib.hid b0
  clear k0 b0
  gi_wp2_with (gi_at_call 16; refine (callsIn_wide.2 (HDEP.out _)).mono ?_; rintro _ _ ⟨rfl, rfl⟩)
  exact ⟨_, results_tmp2 rfl _ _ _, rfl, by rw [hh]; exact HB0.out⟩
end Go.Proofs.YtkopoepoinkpeaaDoor
