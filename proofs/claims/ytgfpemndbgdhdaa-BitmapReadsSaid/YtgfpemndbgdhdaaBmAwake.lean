/- Contract of layer 7's awake: the document's example holds. -/
import Derived.Test.YtgfpemndbgdhdaaBmMark
import Derived.Test.YtgfpemndbgdhdaaBmCopy
import Derived.Test.YtgfpemndbgdhdaaSame
namespace Go.Proofs.Ytgfpemndbgdhdaa
open Go.RowKit
set_option linter.unusedVariables false
set_option linter.unusedSimpArgs false
set_option maxRecDepth 100000

theorem aw_0 : canM 10 (List.replicate (siz 10) 0) 0 = true ∧ mrk 10 (List.replicate (siz 10) 0) 0 = [1, 0] := by decide +kernel
theorem aw_9 : canM 10 [1, 0] 9 = true ∧ mrk 10 [1, 0] 9 = [1, 2] := by decide +kernel
theorem aw_99 : canM 10 [1, 2] 9 = false ∧ mrk 10 [1, 2] 9 = [1, 2] := by decide +kernel
theorem awake_any (w : World) : Calls Try.prog 7 #[] w fun e w' => e = .returned (.bool true) ∧ Below w.heap.size w w' := by
  go_enter Try.func7, Try.ntmps7
  go_wp2_with fail
  refine (New_any 10 w (by omega)).mono ?_
  rintro e w1 ⟨g, h, rfl, s1, hb1⟩
  go_wp2_with fail
  refine (Mark_any s1 0).mono ?_
  rintro e w2 ⟨rfl, s2, hg2⟩
  rw [aw_0.1]
  rw [aw_0.2] at s2
  have hb2 : Below w.heap.size w w2 := hb1.grown hg2 hb1.size (fun k hk => by injection hk with hk; subst hk; exact s1.bh)
  have H2 := Lib.hid hb2
  clear hb1 s1 hg2 hb2
  go_wp2_with fail
  refine (Mark_any s2 9).mono ?_
  rintro e w3 ⟨rfl, s3, hg3⟩
  rw [aw_9.1]
  rw [aw_9.2] at s3
  have H3 := Lib.hid (H2.out.grown hg3 H2.out.size (fun k hk => by injection hk with hk; subst hk; exact s2.bh))
  clear s2 hg3 H2
  go_wp2_with fail
  refine (Mark_any s3 9).mono ?_
  rintro e w4 ⟨rfl, s4, hg4⟩
  rw [aw_99.1]
  rw [aw_99.2] at s4
  have H4 := Lib.hid (H3.out.grown hg4 H3.out.size (fun k hk => by injection hk with hk; subst hk; exact s3.bh))
  clear s3 hg4 H3
  go_wp2_with fail
  refine (Bytes_any s4).mono ?_
  rintro e w5 ⟨q, rfl, hq, hq2, hb5⟩
  have H5 := Lib.hid (H4.out.trans (hb5.mono H4.out.size))
  clear s4 hb5 H4
  go_wp2_with fail
  refine (same_any (some ⟨q, 0, none⟩) _ 2 2 2 2 [1, 2] [1, 2] _ (reads_blk (hq.alloc _) _ 2 _ (by have := hq.lt; simp; omega) rfl rfl) (reads_blk (Blk.new w5 5 #[.int .u8 1, .int .u8 2]) _ 2 _ (by simp) rfl rfl) (by omega)).mono ?_
  rintro e w7 ⟨rfl, hd7⟩
  rw [sameB_true rfl]
  go_wp2_with fail
  go_ret
  exact ⟨rfl, hd7.below (H5.out.alloc H5.out.size _)⟩
end Go.Proofs.Ytgfpemndbgdhdaa
