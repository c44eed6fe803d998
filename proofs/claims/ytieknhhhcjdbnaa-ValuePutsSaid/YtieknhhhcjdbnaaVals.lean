/- A column's values in memory: structs of three cells, one behind the other; a list of them that came in, opened. -/
import Derived.Test.YtieknhhhcjdbnaaPost
import Derived.Test.YtieknhhhcjdbnaaJ18
import Derived.Test.YtieknhhhcjdbnaaPlPlain
import Derived.Test.YtieknhhhcjdbnaaTxOrd
namespace Go.Proofs.Ytieknhhhcjdbnaa
open Go.ChangeShapes Go.WideShapes Go.RowKit
set_option linter.unusedVariables false
set_option linter.unusedSimpArgs false
set_option maxRecDepth 100000

/-- A value's cells. -/
def vc (v : Int × Int × Tx) : List Value := [.int .i64 v.1, .int .i64 v.2.1, .string ⟨v.2.2.toArray⟩]
/-- Values as cells. -/
def vs (l : List (Int × Int × Tx)) : List Value := l.flatMap vc
theorem vs_nil : vs [] = [] := rfl
theorem vs_append (a b : List (Int × Int × Tx)) : vs (a ++ b) = vs a ++ vs b := by simp [vs]
theorem vs_one (v : Int × Int × Tx) : vs [v] = vc v := by simp [vs]
theorem vs_cons (v : Int × Int × Tx) (l : List (Int × Int × Tx)) : vs (v :: l) = vc v ++ vs l := by simp [vs]
theorem vs_length : ∀ l : List (Int × Int × Tx), (vs l).length = l.length * 3
  | [] => rfl
  | v :: l => by rw [vs_cons, List.length_append, vs_length l]; simp [vc]; omega
theorem vc_cell (v : Int × Int × Tx) : ∀ u ∈ vc v, u.oneCell' = true := by
  intro u hu
  simp [vc] at hu
  rcases hu with rfl | rfl | rfl <;> rfl
theorem vs_at : ∀ {l : List (Int × Int × Tx)} {k : Nat} {v : Int × Int × Tx}, l[k]? = some v → (vs l)[k * 3]? = some (.int .i64 v.1) ∧ (vs l)[k * 3 + 1]? = some (.int .i64 v.2.1) ∧ (vs l)[k * 3 + 2]? = some (.string ⟨v.2.2.toArray⟩)
  | [], k, v, h => by simp at h
  | x :: l, 0, v, h => by
    simp at h
    subst h
    rw [vs_cons]
    exact ⟨rfl, rfl, rfl⟩
  | x :: l, k + 1, v, h => by
    simp at h
    obtain ⟨h1, h2, h3⟩ := vs_at h
    have e : ∀ j, (vc x ++ vs l)[3 + j]? = (vs l)[j]? := fun j => by
      rw [List.getElem?_append_right (by simp [vc])]
      congr 1
      simp [vc]
    rw [vs_cons, show (k + 1) * 3 = 3 + k * 3 by omega, show 3 + k * 3 + 1 = 3 + (k * 3 + 1) by omega, show 3 + k * 3 + 2 = 3 + (k * 3 + 2) by omega, e, e, e]
    exact ⟨h1, h2, h3⟩
theorem Reads.val {w : World} {B n : Nat} {A : Option Addr} {l : List (Int × Int × Tx)} (h : Reads w B 3 A n (vs l)) {k : Nat} {v : Int × Int × Tx} (hv : l[k]? = some v) :
    ∃ b o, A = some ⟨b, o, none⟩ ∧ b < B ∧ w.cell? ⟨b, o + k * 3, none⟩ = some (.int .i64 v.1) ∧ w.cell? ⟨b, o + k * 3 + 1, none⟩ = some (.int .i64 v.2.1) ∧ w.cell? ⟨b, o + k * 3 + 2, none⟩ = some (.string ⟨v.2.2.toArray⟩) := by
  have hk : k < l.length := (List.getElem?_eq_some_iff.1 hv).1
  have hn : 0 < n := by have := h.1; rw [vs_length] at this; omega
  obtain ⟨⟨b, o, sp⟩, rfl, hb, hc⟩ := h.2 hn
  obtain ⟨h1, h2, h3⟩ := vs_at hv
  have c1 := hc _ _ h1
  have c2 := hc _ _ h2
  have c3 := hc _ _ h3
  have hl : 0 < (vs l).length := by rw [vs_length]; omega
  obtain rfl : sp = none := by simpa [Addr.add] using World.cell?_spot (hc 0 _ (List.getElem?_eq_getElem hl))
  rw [plain_add] at c1 c2 c3
  exact ⟨b, o, rfl, hb, c1, by rw [← c2, Nat.add_assoc], by rw [← c3, Nat.add_assoc]⟩
/-- What the walk is told of a list of values that came in. -/
def IsVals (w : World) (a : Option Addr) (len cap : Nat) (l : List (Int × Int × Tx)) : Prop :=
  l.length = len ∧ len ≤ cap ∧ cap ≤ maxLen ∧ Reads w w.heap.size 3 a len (vs l) ∧ ∀ v ∈ l, In64 v.1 ∧ In64 v.2.1
theorem vals_of {H : Type} {enc : TypeId × Value → H} {W : World} {a : Option Addr} {len cap : Nat} {d : DataW H} {p : List MemPlace} (h : DataW.Trod enc Try.prog W 0 (fun _ => true) true 25 (.slice a len cap) d p) :
    ∃ l, IsVals W a len cap l := by
  obtain ⟨fuel, hf⟩ := h
  rcases open_slice_fields Try.underlying25 Try.underlying23 (by kernel_rfl) (by kernel_rfl) hf with ⟨hcs, _⟩ | ⟨x, l, c, mm, D, Pl, hcs, _, hl, hcm, hmm, _, hi⟩
  · simp [Value.cells] at hcs
    obtain ⟨rfl, rfl, rfl⟩ := hcs
    exact ⟨[], rfl, Nat.le_refl _, Nat.zero_le _, Reads.none_, by simp⟩
  · simp [Value.cells] at hcs
    obtain ⟨rfl, rfl, rfl⟩ := hcs
    have hall : ∀ j, ∃ y : Int × Int × Tx, j < len → (In64 y.1 ∧ In64 y.2.1) ∧ ∀ i v, (vc y)[i]? = some v → W.cell? (x.add (j * 3 + i)) = some v := by
      intro j
      by_cases hj : j < len
      · obtain ⟨ys, nn, _, _, _, hfld⟩ := hi j (by rw [hmm]; simp; omega)
        obtain ⟨v0, y0, c0, _, t0⟩ := hfld 0 _ rfl
        obtain ⟨v1, y1, c1, _, t1⟩ := hfld 1 _ rfl
        obtain ⟨v2, y2, c2, _, t2⟩ := hfld 2 _ rfl
        obtain ⟨k, e0, _, wk⟩ := DataW.trod_int Try.underlying3 t0
        obtain ⟨n, e1, _, wn⟩ := DataW.trod_int Try.underlying2 t1
        obtain ⟨s, e2, _, _⟩ := DataW.trod_string Try.underlying9 t2
        injection e0 with e0
        injection e1 with e1
        injection e2 with e2
        subst e0 e1 e2
        have hk : In64 k := by have := i64_of wk; unfold In64; omega
        have hn : In64 n := by have := i64_of wn; unfold In64; omega
        refine ⟨⟨k, n, s.data.toList⟩, fun _ => ⟨⟨hk, hn⟩, fun i v hv => ?_⟩⟩
        unfold vc at hv
        rcases i with _ | _ | _ | i
        all_goals simp at hv
        all_goals subst hv
        · exact c0
        · exact c1
        · exact c2
      · exact ⟨(0, 0, []), fun h => absurd h hj⟩
    obtain ⟨f, hfn⟩ := Classical.axiomOfChoice hall
    have hget : ∀ j y, ((List.range len).map f)[j]? = some y → j < len ∧ y = f j := by
      intro j y hy
      have hj : j < len := by
        have := (List.getElem?_eq_some_iff.1 hy).1
        simpa using this
      rw [List.getElem?_map, List.getElem?_range hj] at hy
      injection hy with hy
      exact ⟨hj, hy.symm⟩
    refine ⟨(List.range len).map f, by simp, hl, hcm, ⟨by rw [vs_length]; simp, fun hn => ?_⟩, fun v hv => ?_⟩
    · refine ⟨x, rfl, ?_, fun j u hu => ?_⟩
      · have := World.block_lt_of_cell? W _ ((hfn 0 hn).2 0 _ rfl)
        rwa [block_of_add] at this
      · have hj : j < len * 3 := by
          have := (List.getElem?_eq_some_iff.1 hu).1
          rw [vs_length] at this
          simpa using this
        have hy : ((List.range len).map f)[j / 3]? = some (f (j / 3)) := by rw [List.getElem?_map, List.getElem?_range (by omega)]; rfl
        obtain ⟨h1, h2, h3⟩ := vs_at hy
        have hc := (hfn (j / 3) (by omega)).2
        obtain ⟨q, hq⟩ : ∃ q, j / 3 = q := ⟨_, rfl⟩
        rw [hq] at h1 h2 h3 hc
        have hr : j = q * 3 ∨ j = q * 3 + 1 ∨ j = q * 3 + 2 := by omega
        rcases hr with rfl | rfl | rfl
        · rw [h1] at hu; exact hc 0 _ (by rw [← hu]; rfl)
        · rw [h2] at hu; exact hc 1 _ (by rw [← hu]; rfl)
        · rw [h3] at hu; exact hc 2 _ (by rw [← hu]; rfl)
    · obtain ⟨j, hj, rfl⟩ := List.mem_map.1 hv
      exact (hfn j (List.mem_range.1 hj)).1
end Go.Proofs.Ytieknhhhcjdbnaa
