/- A list of byte texts that came in, opened. -/
import Derived.Deep.Matrix
import Derived.Test.YthgopedojgbaoaaPost
import Derived.Test.YthgopedojgbaoaaLists
namespace Go.Proofs.Ythgopedojgbaoaa
open Go.ChangeShapes Go.WideShapes Go.RowKit
set_option linter.unusedVariables false
set_option linter.unusedSimpArgs false
set_option maxRecDepth 100000

/-- What the walk is told of a list of byte texts that came in. -/
def IsList (w : World) (a : Option Addr) (len : Nat) (ls : List (List Nat)) : Prop := ls.length = len ∧ LL w a ls ∧ ∀ l ∈ ls, ∀ b ∈ l, b < 256
theorem lists_of {H : Type} {enc : TypeId × Value → H} {W : World} {a : Option Addr} {len cap : Nat} {d : DataW H} {p : List MemPlace} (h : DataW.Trod enc Try.prog W 0 (fun _ => true) true 22 (.slice a len cap) d p) :
    ∃ ls, IsList W a len ls := by
  obtain ⟨fuel, hf⟩ := h
  rcases Go.Deep.open_int_rows Try.underlying22 Try.underlying26 Try.underlying5 (by kernel_rfl) (by kernel_rfl) hf with ⟨hcs, _⟩ | ⟨x, l, c, A, L, C, Z, hcs, _, hl, hm, _, hi⟩
  · simp [Value.cells] at hcs
    obtain ⟨rfl, rfl, rfl⟩ := hcs
    exact ⟨[], rfl, LL.none_, by simp⟩
  · simp [Value.cells] at hcs
    obtain ⟨rfl, rfl, rfl⟩ := hcs
    have hall : ∀ r, ∃ t : List Nat, r < cap → t.length = L r ∧ Reads W W.heap.size 1 (A r) (L r) (bs t) ∧ ∀ b ∈ t, b < 256 := by
      intro r
      by_cases hr : r < cap
      · obtain ⟨hcell, h1, h2, h3, h4, h5, h6⟩ := hi r hr
        have hrow : IsRow .u8 W (A r) (L r) (C r) (Z r) := by
          cases hA : A r with
          | none =>
            have hC := h5 hA
            rw [hC] at h1 h3
            exact .inl ⟨rfl, by omega, hC, List.eq_nil_of_length_eq_zero h3⟩
          | some y => exact .inr ⟨y, rfl, h1, h2, h3, fun i hi' => (h6 y hA).2 i (by omega), h4⟩
        obtain ⟨t, ht1, _, ht2, ht3⟩ := hrow.bytes
        exact ⟨t, fun _ => ⟨ht1, ht2, ht3⟩⟩
      · exact ⟨[], fun h => absurd h hr⟩
    obtain ⟨f, hfn⟩ := Classical.axiomOfChoice hall
    refine ⟨(List.range len).map f, by simp, ⟨(List.range len).map fun r => .slice (A r) (L r) (C r), ?_, ?_⟩, ?_⟩
    · refine ⟨by simp, fun hn => ⟨x, rfl, ?_, fun j u hu => ?_⟩⟩
      · have := World.block_lt_of_cell? W _ (hi 0 (by simp at hn; omega)).1
        rwa [block_of_add] at this
      · have hj : j < len := by
          have := (List.getElem?_eq_some_iff.1 hu).1
          simpa using this
        rw [List.getElem?_map, List.getElem?_range hj] at hu
        injection hu with hu
        rw [← hu]
        exact (hi j (by omega)).1
    · refine Each.range _ _ len fun r hr => ?_
      obtain ⟨h1, h2, _⟩ := hfn r (by omega)
      exact ⟨A r, C r, by simp only [h1], by rw [h1]; exact h2⟩
    · intro t ht
      obtain ⟨r, hr, rfl⟩ := List.mem_map.1 ht
      exact (hfn r (by have := List.mem_range.1 hr; omega)).2.2
end Go.Proofs.Ythgopedojgbaoaa
