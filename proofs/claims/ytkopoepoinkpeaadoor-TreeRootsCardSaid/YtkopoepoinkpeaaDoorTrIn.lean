/- Byte texts and digests that came in as slices, opened, with their room. -/
import Derived.Deep.Slices
import Derived.Deep.Matrix
import Derived.Deep.Fields
import Derived.Test.YtkopoepoinkpeaaDoorJ8
import Derived.Test.YtkopoepoinkpeaaDoorJ9
namespace Go.Proofs.YtkopoepoinkpeaaDoor
open Go.ChangeShapes Go.WideShapes Go.Deep Go.RowKit Go.WideMaps
set_option linter.unusedVariables false
set_option linter.unusedSimpArgs false
set_option maxRecDepth 100000

/-- What the walk is told of a list of byte texts that came in, with its room. -/
def IsPartsC (w : World) (a : Option Addr) (len cap : Nat) (ls : List (List Nat)) : Prop := IsParts w a len ls ∧ len ≤ cap ∧ cap ≤ maxLen
theorem partsC_of {H : Type} {enc : TypeId × Value → H} {W : World} {a : Option Addr} {len cap : Nat} {d : DataW H} {p : List MemPlace} (h : DataW.Trod enc Tryd.prog W 0 (fun _ => true) true 22 (.slice a len cap) d p) :
    ∃ ls, IsPartsC W a len cap ls := by
  obtain ⟨ls, hp⟩ := parts_of h
  refine ⟨ls, hp, ?_⟩
  obtain ⟨fuel, hf⟩ := h
  rcases Go.Deep.open_int_rows Tryd.underlying22 Tryd.underlying37 Tryd.underlying5 (by kernel_rfl) (by kernel_rfl) hf with ⟨hcs, _⟩ | ⟨x, l, c, A, L, C, Z, hcs, _, hl, hm, _, hi⟩
  · simp [Value.cells] at hcs
    obtain ⟨rfl, rfl, rfl⟩ := hcs
    exact ⟨Nat.le_refl _, Nat.zero_le _⟩
  · simp [Value.cells] at hcs
    obtain ⟨rfl, rfl, rfl⟩ := hcs
    exact ⟨hl, hm⟩
/-- What the walk is told of digests that came in. -/
def IsHs (w : World) (a : Option Addr) (len cap : Nat) (ds : List (List Nat)) : Prop := ds.length = len ∧ len ≤ cap ∧ cap ≤ maxLen ∧ HsAt w a ds ∧ Dg ds
theorem cellsHash : Tryd.prog.cellsOf 31 = 32 := by kernel_rfl
section
variable {H : Type} {enc : TypeId × Value → H} {W : World}
theorem hash_cells {n : Nat} {cs : List Value} {x : DataW H × List MemPlace} (h : DataW.trod enc Tryd.prog W 0 (fun _ => true) true n 31 cs = some x) : ∃ d : List Nat, cs = bs d ∧ d.length = 32 ∧ ∀ b ∈ d, b < 256 := by
  have A : ArrKey Tryd.prog 31 5 32 := ⟨Tryd.underlying31, by kernel_rfl, by kernel_rfl, by kernel_rfl⟩
  cases n with
  | zero => simp [DataW.trod] at h
  | succ m =>
    rw [DataW.trod_step] at h
    unfold DataW.trodStep at h
    simp only [A.hu] at h
    by_cases hlen : cs.length = Tryd.prog.cellsOf 31
    · rw [if_pos hlen] at h
      rw [cellsHash] at hlen
      simp only [Option.map_eq_some_iff] at h
      obtain ⟨ys, hy, _⟩ := h
      have hall := each_int Tryd.underlying5 _ ys hy
      have hex : ∀ i, ∃ b : Nat, i < 32 → cs[i]? = some (.int .u8 (b : Int)) ∧ b < 256 := by
        intro i
        by_cases hi : i < 32
        · obtain ⟨a, ha, wa⟩ := hall i (by simpa using hi)
          obtain ⟨b, rfl, hb⟩ := u8_of wa
          refine ⟨b, fun _ => ⟨?_, hb⟩⟩
          rw [A.one, Nat.mul_one] at ha
          have := congrArg (fun z => z[0]?) ha
          simpa [List.getElem?_take, List.getElem?_drop] using this
        · exact ⟨0, fun h => absurd h hi⟩
      obtain ⟨f, hfn⟩ := Classical.axiomOfChoice hex
      refine ⟨(List.range 32).map f, ?_, by simp, ?_⟩
      · apply List.ext_getElem?
        intro i
        by_cases hi : i < 32
        · rw [(hfn i hi).1]
          simp [bs, List.getElem?_map, List.getElem?_range hi]
        · rw [List.getElem?_eq_none (by omega), List.getElem?_eq_none (by simp [bs]; omega)]
      · intro b hb
        obtain ⟨i, hi, rfl⟩ := List.mem_map.1 hb
        exact (hfn i (by simpa using hi)).2
    · rw [if_neg hlen] at h
      cases h
theorem hashes_of {a : Option Addr} {len cap : Nat} {d : DataW H} {p : List MemPlace} (h : DataW.Trod enc Tryd.prog W 0 (fun _ => true) true 25 (.slice a len cap) d p) :
    ∃ l, IsHs W a len cap l := by
  obtain ⟨fuel, hf⟩ := h
  rcases DataW.trod_slice Tryd.underlying25 hf with ⟨e, _⟩ | ⟨x, n, c, elems, rest, m, hm, e, _, hb, hl, hcm, hel, hat, _, _⟩
  · simp [Value.cells] at e
    obtain ⟨rfl, rfl, rfl⟩ := e
    exact ⟨[], rfl, Nat.le_refl _, Nat.zero_le _, Reads.none_, by intro d hd; cases hd⟩
  · simp [Value.cells] at e
    obtain ⟨rfl, rfl, rfl⟩ := e
    have hall : ∀ j, ∃ z : List Nat, j < len → W.cells? 0 (x.add (j * 32)) 32 = some (bs z) ∧ z.length = 32 ∧ ∀ b ∈ z, b < 256 := by
      intro j
      by_cases hj : j < len
      · have h1 := hat j hj
        rw [cellsHash, List.getElem?_eq_getElem (by omega)] at h1
        obtain ⟨cs', hc, ht⟩ := Option.bind_eq_some_iff.1 h1
        obtain ⟨z, rfl, hz⟩ := hash_cells ht
        exact ⟨z, fun _ => ⟨hc, hz⟩⟩
      · exact ⟨[], fun h => absurd h hj⟩
    obtain ⟨F, hF⟩ := Classical.axiomOfChoice hall
    have hdg : Dg ((List.range len).map F) := fun z hz => by
      obtain ⟨j, hj, rfl⟩ := List.mem_map.1 hz
      exact (hF j (List.mem_range.1 hj)).2
    have hus : ∀ j, j < len → ∀ i, i < 32 → W.cell? ((x.add (j * 32)).add i) = (bs (F j))[i]? := fun j hj i hi => by
      obtain ⟨_, _, h2⟩ := World.cells?_some (hF j hj).1
      exact h2 i hi
    have hfl : (bs ((List.range len).map F).flatten).length = len * 32 := by rw [bs_length, hdg.len]; simp
    refine ⟨(List.range len).map F, by simp, hl, hcm, ⟨by rw [hfl]; simp, fun hn => ⟨x, rfl, ?_, fun j u hu => ?_⟩⟩, hdg⟩
    · simp at hn
      have h3 := hus 0 hn 0 (by omega)
      have := World.block_lt_of_cell? W _ (h3.trans (List.getElem?_eq_getElem (by rw [bs_length, (hF 0 hn).2.1]; omega)))
      rwa [block_of_add, block_of_add] at this
    · have hj : j < len * 32 := by
        have := (List.getElem?_eq_some_iff.1 hu).1
        rwa [hfl] at this
      have hk : j / 32 < len := by omega
      have hu' : ((List.range len).map F)[j / 32]? = some (F (j / 32)) := by rw [List.getElem?_map, List.getElem?_range hk]; rfl
      have h5 := hdg.at_ hu' (j := j % 32) (by omega)
      rw [show j / 32 * 32 + j % 32 = j by omega] at h5
      have h6 := hus (j / 32) hk (j % 32) (by omega)
      rw [Go.Deep.add_add, show j / 32 * 32 + j % 32 = j by omega] at h6
      rw [h6, ← hu]
      unfold bs
      rw [List.getElem?_map, List.getElem?_map, h5]
end
end Go.Proofs.YtkopoepoinkpeaaDoor
