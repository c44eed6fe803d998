/- A slice of numbers of kind int that came in, as a list of integers. No condition. -/
import Derived.Test.YtppeagjklndidaaPost
import Derived.Test.YtppeagjklndidaaInts
namespace Go.Proofs.Ytppeagjklndidaa
open Go.RowKit
set_option linter.unusedVariables false
set_option linter.unusedSimpArgs false
theorem IsRow.ints {w : World} {a : Option Addr} {len cap : Nat} {z : List Int} (h : IsRow .i64 w a len cap z) :
    ∃ l : List Int, l.length = len ∧ Reads w w.heap.size 1 a len (zs l) ∧ ∀ b ∈ l, -9223372036854775808 ≤ b ∧ b ≤ 9223372036854775807 := by
  rcases h with ⟨rfl, rfl, rfl, rfl⟩ | ⟨x, rfl, hl, hm, hz, hcell, hw⟩
  · exact ⟨[], rfl, Reads.none_, by simp⟩
  · refine ⟨z.take len, by simp; omega, ⟨by simp [zs]; omega, fun hn => ⟨x, rfl, ?_, fun j u hu => ?_⟩⟩, fun b hb => i64_of (hw b (List.mem_of_mem_take hb))⟩
    · have := World.block_lt_of_cell? w _ (hcell 0 (by omega))
      rwa [block_of_add] at this
    · obtain ⟨b, hb, rfl⟩ := zs_at hu
      rw [List.getElem?_take] at hb
      split at hb
      · rename_i hj
        have hjz : j < z.length := by omega
        rw [List.getElem?_eq_getElem hjz] at hb
        simp at hb
        rw [hcell j hjz]
        simp only [List.getD, List.getElem?_eq_getElem hjz, Option.getD]
        rw [hb]
      · cases hb
theorem IsRow.room {k : IntKind} {w : World} {a : Option Addr} {len cap : Nat} {z : List Int} (h : IsRow k w a len cap z) : len ≤ cap := by
  rcases h with ⟨_, h1, h2, _⟩ | ⟨_, _, h, _⟩
  · omega
  · exact h
end Go.Proofs.Ytppeagjklndidaa
