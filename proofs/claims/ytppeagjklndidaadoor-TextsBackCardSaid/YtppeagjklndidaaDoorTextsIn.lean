/- A list of texts that came in, opened. -/
import Derived.Deep.Strs
import Derived.Test.YtppeagjklndidaaDoorJ2
import Derived.Test.YtppeagjklndidaaDoorJ8
namespace Go.Proofs.YtppeagjklndidaaDoor
open Go.ChangeShapes Go.WideShapes Go.RowKit
set_option linter.unusedVariables false
set_option linter.unusedSimpArgs false
set_option maxRecDepth 100000

/-- What the walk is told of a list of texts that came in. -/
def IsTexts (w : World) (a : Option Addr) (len cap : Nat) (l : List (List UInt8)) : Prop := l.length = len ∧ len ≤ cap ∧ Reads w w.heap.size 1 a len (ts l)
theorem texts_of {H : Type} {enc : TypeId × Value → H} {W : World} {a : Option Addr} {len cap : Nat} {d : DataW H} {p : List MemPlace} (h : DataW.Trod enc Tryd.prog W 0 (fun _ => true) true 34 (.slice a len cap) d p) :
    ∃ l, IsTexts W a len cap l := by
  obtain ⟨fuel, hf⟩ := h
  rcases Go.Deep.open_strs Tryd.underlying34 Tryd.underlying9 (by kernel_rfl) hf with ⟨hcs, _⟩ | ⟨x, l, c, m, Sx, hcs, _, hl, hm, hmm, _, hi⟩
  · simp [Value.cells] at hcs
    obtain ⟨rfl, rfl, rfl⟩ := hcs
    exact ⟨[], rfl, Nat.le_refl _, Reads.none_⟩
  · simp [Value.cells] at hcs
    obtain ⟨rfl, rfl, rfl⟩ := hcs
    have hmc : len ≤ m := by rw [hmm]; simp; omega
    refine ⟨(List.range len).map fun i => (Sx i).data.toList, by simp, hl, by simp [ts], fun hn => ⟨x, rfl, ?_, fun j u hu => ?_⟩⟩
    · have := World.block_lt_of_cell? W _ (hi 0 (by omega)).1
      rwa [block_of_add] at this
    · have hj : j < len := by
        have := (List.getElem?_eq_some_iff.1 hu).1
        simpa [ts] using this
      rw [(hi j (by omega)).1]
      unfold ts at hu
      rw [List.getElem?_map, List.getElem?_map, List.getElem?_range hj] at hu
      exact hu
end Go.Proofs.YtppeagjklndidaaDoor
