/- A slice of numbers of kind int32 that came in, as a list of integers. No condition. -/
import Derived.Test.YtpjmenaejfdiaaaPost
namespace Go.Proofs.Ytpjmenaejfdiaaa
open Go.RowKit
set_option linter.unusedVariables false
set_option linter.unusedSimpArgs false

def hs32 (l : List Int) : List Value := l.map (Value.int .i32)
theorem hs32_length (l : List Int) : (hs32 l).length = l.length := by simp [hs32]
theorem hs32_at {l : List Int} {k : Nat} {u : Value} (h : (hs32 l)[k]? = some u) : ∃ b, l[k]? = some b ∧ u = .int .i32 b := by
  unfold hs32 at h
  rw [List.getElem?_map] at h
  cases hb : l[k]? with
  | none => rw [hb] at h; cases h
  | some b => rw [hb] at h; injection h with h; exact ⟨b, rfl, h.symm⟩
theorem i32_of {a : Int} (w : (Lit.int .i32 a).wf = true) : -2147483648 ≤ a ∧ a ≤ 2147483647 := by
  simpa [Lit.wf, IntKind.min, IntKind.max, IntKind.signed, IntKind.bits] using w
theorem IsRow.int32s {w : World} {a : Option Addr} {len cap : Nat} {z : List Int} (h : IsRow .i32 w a len cap z) :
    ∃ l : List Int, l.length = len ∧ Reads w w.heap.size 1 a len (hs32 l) ∧ ∀ b ∈ l, -2147483648 ≤ b ∧ b ≤ 2147483647 := by
  rcases h with ⟨rfl, rfl, rfl, rfl⟩ | ⟨x, rfl, hl, hm, hz, hcell, hw⟩
  · exact ⟨[], rfl, Reads.none_, by simp⟩
  · refine ⟨z.take len, by simp; omega, ⟨by simp [hs32]; omega, fun hn => ⟨x, rfl, ?_, fun j u hu => ?_⟩⟩, fun b hb => i32_of (hw b (List.mem_of_mem_take hb))⟩
    · have := World.block_lt_of_cell? w _ (hcell 0 (by omega))
      rwa [block_of_add] at this
    · obtain ⟨b, hb, rfl⟩ := hs32_at hu
      rw [List.getElem?_take] at hb
      split at hb
      · rename_i hj
        have hjz : j < z.length := by omega
        rw [List.getElem?_eq_getElem hjz] at hb
        simp at hb
        rw [hcell j hjz]
        simp only [List.getD, List.getElem?_eq_getElem hjz, Option.getD]
        rw [hb]
      · cases hb
end Go.Proofs.Ytpjmenaejfdiaaa
