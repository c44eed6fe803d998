/- Zones in memory: structs of eight cells, one behind the other; a list of them that came in, opened. -/
import Derived.Test.YtobophhlcekngaaDoorJ4
import Derived.Test.YtobophhlcekngaaDoorZnOne
namespace Go.Proofs.YtobophhlcekngaaDoor
open Go.ChangeShapes Go.WideShapes Go.Deep Go.RowKit
set_option linter.unusedVariables false
set_option linter.unusedSimpArgs false
set_option maxRecDepth 100000

/-- Zones as cells. -/
def zcs (l : List Zn) : List Value := l.flatMap zc
theorem zc_length (z : Zn) : (zc z).length = 8 := rfl
theorem zcs_length : ∀ l : List Zn, (zcs l).length = l.length * 8
  | [] => rfl
  | z :: l => by rw [zcs, List.flatMap_cons, List.length_append, zc_length, List.length_cons]; have := zcs_length l; unfold zcs at this; omega
theorem zcs_at : ∀ {l : List Zn} {k j : Nat} {z : Zn}, l[k]? = some z → j < 8 → (zcs l)[k * 8 + j]? = (zc z)[j]?
  | [], _, _, _, h, _ => by simp at h
  | x :: l, 0, j, z, h, hj => by
    simp at h
    subst h
    rw [zcs, List.flatMap_cons, Nat.zero_mul, Nat.zero_add, List.getElem?_append_left (by rw [zc_length]; exact hj)]
  | x :: l, k + 1, j, z, h, hj => by
    simp at h
    rw [zcs, List.flatMap_cons, List.getElem?_append_right (by rw [zc_length]; omega), zc_length, show (k + 1) * 8 + j - 8 = k * 8 + j by omega]
    exact zcs_at h hj
/-- What the walk is told of zones that came in. -/
def IsZones (w : World) (a : Option Addr) (len cap : Nat) (l : List Zn) : Prop :=
  l.length = len ∧ len ≤ cap ∧ cap ≤ maxLen ∧ Reads w w.heap.size 8 a len (zcs l) ∧ ∀ z ∈ l, In64 z.1
theorem cellsZn : Tryd.prog.cellsOf 37 = 8 := by kernel_rfl
theorem cellsInt1 : Tryd.prog.cellsOf 3 = 1 := by kernel_rfl
theorem cellsBool1 : Tryd.prog.cellsOf 4 = 1 := by kernel_rfl
section
variable {H : Type} {enc : TypeId × Value → H} {W : World}
theorem zone_cells {n : Nat} {cs : List Value} {x : DataW H × List MemPlace} (h : DataW.trod enc Tryd.prog W 0 (fun _ => true) true n 37 cs = some x) : ∃ z : Zn, cs = zc z ∧ In64 z.1 := by
  obtain ⟨ys, m, rfl, _, hlen, hyl, hf⟩ := DataW.trod_struct Tryd.underlying37 h
  rw [cellsZn] at hlen
  have hyl' : ys.length = 4 := hyl
  have f0 := hf 0 _ rfl
  have f1 := hf 1 _ rfl
  have f2 := hf 2 _ rfl
  have f3 := hf 3 _ rfl
  change DataW.trod _ _ _ _ _ _ _ 3 ((cs.drop 0).take (Tryd.prog.cellsOf 3)) = _ at f0
  change DataW.trod _ _ _ _ _ _ _ 4 ((cs.drop 1).take (Tryd.prog.cellsOf 4)) = _ at f1
  change DataW.trod _ _ _ _ _ _ _ 34 ((cs.drop 2).take (Tryd.prog.cellsOf 34)) = _ at f2
  change DataW.trod _ _ _ _ _ _ _ 34 ((cs.drop 5).take (Tryd.prog.cellsOf 34)) = _ at f3
  rw [cellsInt1, List.getElem?_eq_getElem (by omega)] at f0
  rw [cellsBool1, List.getElem?_eq_getElem (by omega)] at f1
  rw [cellsVl, List.getElem?_eq_getElem (by omega)] at f2 f3
  obtain ⟨k, e0, _, wk⟩ := DataW.trod_int Tryd.underlying3 f0
  obtain ⟨bb, e1, _⟩ := DataW.trod_bool Tryd.underlying4 f1
  obtain ⟨v2, e2, _⟩ := val_cells f2
  obtain ⟨v3, e3, _⟩ := val_cells f3
  refine ⟨(k, bb, v2, v3), ?_, by have := i64_of wk; show In64 k; unfold In64; omega⟩
  match cs, hlen, e0, e1, e2, e3 with
  | [a, b, c, d, e, f, g, i], _, e0, e1, e2, e3 =>
    simp only [List.drop_zero, List.drop_succ_cons, List.take_succ_cons, List.take_zero] at e0 e1 e2 e3
    injection e0 with e0 _
    injection e1 with e1 _
    unfold vc at e2 e3
    simp only [List.cons.injEq, and_true] at e2 e3
    obtain ⟨g1, g2, g3⟩ := e2
    obtain ⟨g4, g5, g6⟩ := e3
    rw [e0, e1, g1, g2, g3, g4, g5, g6]
    rfl
theorem zones_of {a : Option Addr} {len cap : Nat} {d : DataW H} {p : List MemPlace} (h : DataW.Trod enc Tryd.prog W 0 (fun _ => true) true 26 (.slice a len cap) d p) :
    ∃ l, IsZones W a len cap l := by
  obtain ⟨fuel, hf⟩ := h
  rcases DataW.trod_slice Tryd.underlying26 hf with ⟨e, _⟩ | ⟨x, n, c, elems, rest, m, hm, e, _, hb, hl, hcm, hel, hat, _, _⟩
  · simp [Value.cells] at e
    obtain ⟨rfl, rfl, rfl⟩ := e
    exact ⟨[], rfl, Nat.le_refl _, Nat.zero_le _, Reads.none_, by simp⟩
  · simp [Value.cells] at e
    obtain ⟨rfl, rfl, rfl⟩ := e
    have hall : ∀ j, ∃ z : Zn, j < len → W.cells? 0 (x.add (j * 8)) 8 = some (zc z) ∧ In64 z.1 := by
      intro j
      by_cases hj : j < len
      · have h1 := hat j hj
        rw [cellsZn, List.getElem?_eq_getElem (by omega)] at h1
        obtain ⟨cs', hc, ht⟩ := Option.bind_eq_some_iff.1 h1
        obtain ⟨z, rfl, hz⟩ := zone_cells ht
        exact ⟨z, fun _ => ⟨hc, hz⟩⟩
      · exact ⟨zNone, fun h => absurd h hj⟩
    obtain ⟨F, hF⟩ := Classical.axiomOfChoice hall
    have hus : ∀ j, j < len → ∀ i, i < 8 → W.cell? ((x.add (j * 8)).add i) = (zc (F j))[i]? := fun j hj i hi => by
      obtain ⟨_, _, h2⟩ := World.cells?_some (hF j hj).1
      exact h2 i hi
    refine ⟨(List.range len).map F, by simp, hl, hcm, ⟨by rw [zcs_length]; simp, fun hn => ⟨x, rfl, ?_, fun j u hu => ?_⟩⟩, fun z hz => ?_⟩
    · have h3 := hus 0 hn 0 (by omega)
      have := World.block_lt_of_cell? W _ (h3.trans (List.getElem?_eq_getElem (by rw [zc_length]; omega)))
      rwa [block_of_add, block_of_add] at this
    · have hj : j < len * 8 := by
        have := (List.getElem?_eq_some_iff.1 hu).1
        rw [zcs_length] at this
        simpa using this
      have hk : j / 8 < len := by omega
      have hu' : ((List.range len).map F)[j / 8]? = some (F (j / 8)) := by rw [List.getElem?_map, List.getElem?_range hk]; rfl
      have h5 := zcs_at hu' (j := j % 8) (by omega)
      rw [show j / 8 * 8 + j % 8 = j by omega, hu] at h5
      have h6 := hus (j / 8) hk (j % 8) (by omega)
      rw [Go.Deep.add_add, show j / 8 * 8 + j % 8 = j by omega] at h6
      rw [h6, ← h5]
    · obtain ⟨j, hj, rfl⟩ := List.mem_map.1 hz
      exact (hF j (List.mem_range.1 hj)).2
end
end Go.Proofs.YtobophhlcekngaaDoor
