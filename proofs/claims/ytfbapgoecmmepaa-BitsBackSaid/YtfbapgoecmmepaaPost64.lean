/- A slice of numbers of 64 bits that came in, as a list of natural numbers. No condition. -/
import Derived.Test.YtfbapgoecmmepaaPost
import Derived.Test.YtfbapgoecmmepaaMem64
namespace Go.Proofs.Ytfbapgoecmmepaa
open Go.RowKit
theorem IsRow.words {w : World} {a : Option Addr} {len cap : Nat} {zs : List Int} (h : IsRow .u64 w a len cap zs) :
    ∃ l : List Nat, l.length = len ∧ len ≤ cap ∧ Reads w w.heap.size 1 a len (us l) ∧ ∀ b ∈ l, b < 18446744073709551616 := by
  rcases h with ⟨rfl, rfl, rfl, rfl⟩ | ⟨x, rfl, hl, hm, hz, hcell, hw⟩
  · exact ⟨[], rfl, Nat.le_refl _, Reads.none_, by simp⟩
  · have hr : ∀ n ∈ zs, 0 ≤ n ∧ n ≤ 18446744073709551615 := fun n hn => by have := hw n hn; simpa [Lit.wf, IntKind.min, IntKind.max, IntKind.signed, IntKind.bits] using this
    refine ⟨(zs.take len).map Int.toNat, by simp; omega, hl, ⟨by simp [us]; omega, fun hn => ⟨x, rfl, ?_, fun j u hu => ?_⟩⟩, ?_⟩
    · have := World.block_lt_of_cell? w _ (hcell 0 (by omega))
      rwa [block_of_add] at this
    · obtain ⟨b, hb, rfl⟩ := us_at hu
      rw [List.getElem?_map, List.getElem?_take] at hb
      split at hb
      · rename_i hj
        have hjz : j < zs.length := by omega
        rw [List.getElem?_eq_getElem hjz] at hb
        simp at hb
        have h0 := hr _ (List.getElem_mem hjz)
        rw [hcell j hjz]
        simp only [List.getD, List.getElem?_eq_getElem hjz, Option.getD]
        congr 2
        omega
      · cases hb
    · intro b hb
      obtain ⟨z, hz', rfl⟩ := List.mem_map.1 hb
      have := hr z (List.mem_of_mem_take hz')
      omega
end Go.Proofs.Ytfbapgoecmmepaa
