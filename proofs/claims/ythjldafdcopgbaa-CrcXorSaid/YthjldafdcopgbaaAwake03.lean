/- Contract of the statements' awake: the document's example holds; it answers true. -/
import Derived.Test.YthjldafdcopgbaaRefCrc
import Derived.Lib.SlBytesConst
namespace Go.Proofs.Ythjldafdcopgbaa
open Go.RowKit
set_option linter.unusedVariables false
set_option maxRecDepth 100000

/-- A row that was laid last reads as its cells, whatever is frozen of it. -/
theorem reads_laid (w : World) (cs : Array Value) (t : TypeId) (fr : Nat × Nat) (B n : Nat) (xs : List Value) (hB : w.heap.size < B) (hn : xs.length = n) (hx : cs.toList.take n = xs) :
    Reads (w.alloc (.cells cs t fr)) B 1 (some ⟨w.heap.size, 0, none⟩) n xs := by
  refine ⟨by omega, fun _ => ⟨_, rfl, hB, fun j u hu => ?_⟩⟩
  rw [plain_add, Nat.zero_add, cell_of_row _ _ j cs t fr (heap_alloc_new w _)]
  subst hx
  rw [List.getElem?_take] at hu
  split at hu
  · simpa using hu
  · cases hu
def nine : Array Value := #[.int .u8 49, .int .u8 50, .int .u8 51, .int .u8 52, .int .u8 53, .int .u8 54, .int .u8 55, .int .u8 56, .int .u8 57]
theorem sum_digits (w : World) (t : TypeId) (fr : Nat × Nat) (c : Nat) : Calls Try.prog 9 #[.slice (some ⟨w.heap.size, 0, none⟩) 9 c] (w.alloc (.cells nine t fr))
    fun e w' => e = .returned (.int .u32 3421780262) ∧ Below w.heap.size w w' := by
  have h := sum_any (some ⟨w.heap.size, 0, none⟩) 9 c [49, 50, 51, 52, 53, 54, 55, 56, 57] (w.alloc (.cells nine t fr))
    (reads_laid w _ _ _ _ _ _ (by simp) (by simp [bs]) (by simp [bs, nine])) (by intro b hb; simp at hb; omega) (by omega)
  rw [sumN_awake] at h
  refine h.mono ?_
  rintro e w' ⟨rfl, hb⟩
  exact ⟨rfl, ((Below.refl _ _).alloc (Nat.le_refl _) _).trans (hb.mono (by simp))⟩

theorem awake_any (w : World) : Calls Try.prog 10 #[] w fun e w' => e = .returned (.bool true) ∧ Below w.heap.size w w' := by
  have hcv := Lib.run_convert_bytes_const (P := Try.prog) w 23 5 nine 9 9 Try.underlying23 Try.underlying5
  unfold nine at hcv
  go_enter Try.func10, Try.ntmps10
  go_wp2_with fail
  refine (sum_digits w _ _ _).mono ?_
  rintro e w1 ⟨rfl, hb⟩
  go_wp2_with fail
  go_ret
  exact ⟨rfl, hb⟩
end Go.Proofs.Ythjldafdcopgbaa
