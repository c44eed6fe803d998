/- Contract of the statements' awake: the document's example holds; it answers true. -/
import Derived.Test.YtpibekpddbhojaaDoorFrGet
import Derived.Test.YtpibekpddbhojaaDoorFrPut
import Derived.Test.YtpibekpddbhojaaDoorRefFrPut
import Derived.Test.YtpibekpddbhojaaDoorSame
namespace Go.Proofs.YtpibekpddbhojaaDoor
open Go.RowKit
set_option linter.unusedVariables false
set_option maxRecDepth 100000

theorem put_none (w : World) : Calls Tryd.prog 9 #[.slice none 0 0] w (NewOk w (fr [])) := put_any none 0 0 [] w Reads.none_ (by simp) (by omega)
set_option maxHeartbeats 1000000 in
theorem awake_any (w : World) (hm : Met w) : Calls Tryd.prog 8 #[] w fun e w' => e = .returned (.bool true) ∧ Below w.heap.size w w' := by
  have hfl : (fr []).length = 8 := by rw [fr_length]; rfl
  have hg : getS (fr []) = ([], 8, 0) := by have := getS_fr [] [] (by simp); simpa using this
  have HFL := Lib.hid hfl; clear hfl
  have HG := Lib.hid hg; clear hg
  go_enter Tryd.func8, Tryd.ntmps8
  go_wp2_with fail
  refine (put_none w).mono ?_
  rintro e w1 ⟨v1, rfl, hown1, hb1⟩
  obtain ⟨A1, c1, rfl, hc1, _, hr1⟩ := own_slice hown1
  rw [HFL.out] at hr1 hc1 ⊢
  go_wp2_with fail
  have hget := get_any A1 8 c1 (fr []) w1 (hm.next hb1) hr1 (fr_byte _ (by simp)) hc1 (by omega)
  rw [HG.out] at hget
  refine hget.mono ?_
  clear hget
  rintro e w2 ⟨A2, c2, rfl, _, hb2⟩
  go_wp2_with fail
  go_ret
  exact ⟨rfl, hb1.trans (hb2.mono hb1.size)⟩
end Go.Proofs.YtpibekpddbhojaaDoor
