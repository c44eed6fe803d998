/- Texts joined: PdIn Blk3 VlCmpC VlCmp ZwCl FstP ZwFind Hmf ZwTree VMake ZwZero. -/
import Derived.Deep.Slices
import Derived.Deep.Fields
import Derived.SizedLaws
import Derived.Test.YtobophhlcekngaaDoorJ3
import Derived.Test.YtobophhlcekngaaDoorJ1
import Derived.Test.YtobophhlcekngaaDoorJ2
import Derived.Deep.QuietTactic
import Derived.BigQuiet
/- A predicate that came in, opened: a tree in memory. -/
namespace Go.Proofs.YtobophhlcekngaaDoor
open Go.ChangeShapes Go.WideShapes Go.Deep Go.RowKit
set_option linter.unusedVariables false
set_option linter.unusedSimpArgs false
set_option maxRecDepth 100000

/-- Its numbers are machine numbers, down to so many levels. -/
def WfP : Nat → Pd → Prop
  | 0, _ => True
  | f + 1, p => (In64 p.op ∧ In64 p.col ∧ ∀ v ∈ p.vals, In64 v.1 ∧ In64 v.2.1) ∧ ∀ q ∈ p.parts, WfP f q
/-- Its texts are as long as texts may be, down to so many levels. -/
def LenP (M : Nat) : Nat → Pd → Prop
  | 0, _ => True
  | f + 1, p => (∀ v ∈ p.vals, v.2.2.length ≤ M) ∧ ∀ q ∈ p.parts, LenP M f q
section
variable {H : Type} {enc : TypeId × Value → H} {P : Program} {w : World} {base : Nat} {spare : Nat → Bool} {held : Bool}
/-- A struct of one-cell fields. -/
theorem open_struct1 {e : TypeId} {fs : Array Field} {fuel : Nat} {cs : List Value} {x : DataW H × List MemPlace} (he : P.underlying e = some (.struct fs)) (hone : oneCellFields P fs = true) (hC : P.cellsOf e = fs.size) (h : DataW.trod enc P w base spare held fuel e cs = some x) :
    ∃ (n : Nat) (ys : List (DataW H × List MemPlace)), fuel = n + 1 ∧ x.1 = .agg (ys.map (·.1)) ∧ cs.length = fs.size ∧ ∀ (j : Nat) (f : Field), fs[j]? = some f → ∃ (v : Value) (y : DataW H × List MemPlace), cs[j]? = some v ∧ ys[j]? = some y ∧ DataW.trod enc P w base spare held n f.type [v] = some y := by
  obtain ⟨ys, n', hn', hy, hlen, hyl, hf⟩ := DataW.trod_struct he h
  refine ⟨n', ys, hn', by rw [hy], hlen.trans hC, fun j f hj => ?_⟩
  obtain ⟨ho, hk⟩ := hone_of hone j f hj
  have hjl : j < fs.size := (Array.getElem?_eq_some_iff.1 hj).1
  have hcl : j < cs.length := by omega
  have h1 := hf j f hj
  rw [ho, hk] at h1
  have hone' : (cs.drop j).take 1 = [cs[j]'hcl] := by
    rw [List.drop_eq_getElem_cons hcl]
    rfl
  rw [hone'] at h1
  have hys : ys[j]? = some (ys[j]'(by omega)) := List.getElem?_eq_getElem (by omega)
  exact ⟨_, _, List.getElem?_eq_getElem hcl, hys, h1.trans hys⟩
theorem weightsAll_mem {e : TypeId} : ∀ {l : List (DataW H)} {d : DataW H}, d ∈ l → ∀ n ∈ d.weights P e, n ∈ DataW.weightsAll P e l
  | a :: l, d, hd, n, hn => by
    simp only [DataW.weightsAll, List.mem_append]
    rcases List.mem_cons.1 hd with rfl | hd
    · exact .inl hn
    · exact .inr (weightsAll_mem hd n hn)
/-- A weight within a field, within an element. -/
theorem weights_agg {t : TypeId} {fs : Array Field} {ys : List (DataW H × List MemPlace)} (hu : P.underlying t = some (.struct fs)) {j : Nat} {f : Field} {y : DataW H × List MemPlace} (hj : fs[j]? = some f) (hy : ys[j]? = some y) : ∀ n ∈ y.1.weights P f.type, n ∈ (DataW.agg (ys.map (·.1))).weights P t := by
  intro n hn
  simp only [DataW.weights, hu]
  exact DataW.weights_mem_each (j := j) (by rw [List.getElem?_map, Array.getElem?_toList, hj]; rfl) (by rw [List.getElem?_map, hy]; rfl) n hn
theorem weights_slice {t e : TypeId} {l r : List (DataW H)} (hu : P.underlying t = some (.slice e)) {d : DataW H} (hd : d ∈ l) : ∀ n ∈ d.weights P e, n ∈ (DataW.slice l r).weights P t := by
  intro n hn
  simp only [DataW.weights, hu, List.mem_cons, List.mem_append]
  exact .inr (.inl (weightsAll_mem hd n hn))
end
theorem cellsVl : Tryd.prog.cellsOf 34 = 3 := by kernel_rfl
section
variable {H : Type} {enc : TypeId × Value → H} {W : World}
theorem val_cells {n : Nat} {cs : List Value} {x : DataW H × List MemPlace} (h : DataW.trod enc Tryd.prog W 0 (fun _ => true) true n 34 cs = some x) : ∃ v : Vl, cs = vc v ∧ (In64 v.1 ∧ In64 v.2.1) ∧ ∀ M, (∀ k ∈ x.1.weights Tryd.prog 34, k ≤ M) → v.2.2.length ≤ M := by
  obtain ⟨m, ys, rfl, hx, hlen, hfld⟩ := open_struct1 Tryd.underlying34 (by kernel_rfl) (by kernel_rfl) h
  obtain ⟨v0, y0, c0, _, t0⟩ := hfld 0 _ rfl
  obtain ⟨v1, y1, c1, _, t1⟩ := hfld 1 _ rfl
  obtain ⟨v2, y2, c2, g2, t2⟩ := hfld 2 _ rfl
  obtain ⟨k, e0, _, wk⟩ := DataW.trod_int Tryd.underlying3 t0
  obtain ⟨i, e1, _, wi⟩ := DataW.trod_int Tryd.underlying2 t1
  obtain ⟨s, e2, hy2, _⟩ := DataW.trod_string Tryd.underlying9 t2
  injection e0 with e0
  injection e1 with e1
  injection e2 with e2
  subst e0 e1 e2
  refine ⟨(k, i, s.data.toList), ?_, ⟨by have := i64_of wk; show In64 k; unfold In64; omega, by have := i64_of wi; show In64 i; unfold In64; omega⟩, fun M hM => ?_⟩
  · match cs, hlen, c0, c1, c2 with
    | [a, b, c], _, c0, c1, c2 =>
      simp at c0 c1 c2
      rw [c0, c1, c2]
      rfl
  · refine hM _ ?_
    rw [hx]
    refine weights_agg Tryd.underlying34 (j := 2) rfl g2 _ ?_
    rw [hy2]
    simp [DataW.weights]
theorem vals2_of {n : Nat} {a : Option Addr} {len cap : Nat} {x : DataW H × List MemPlace} (hf : DataW.trod enc Tryd.prog W 0 (fun _ => true) true n 22 [.slice a len cap] = some x) :
    ∃ l, IsVals W a len cap l ∧ ∀ M, (∀ k ∈ x.1.weights Tryd.prog 22, k ≤ M) → ∀ v ∈ l, v.2.2.length ≤ M := by
  rcases DataW.trod_slice Tryd.underlying22 hf with ⟨e, _⟩ | ⟨x', n', c, elems, rest, m, hm, e, hx, hb, hl, hcm, hel, hat, _, _⟩
  · simp at e
    obtain ⟨rfl, rfl, rfl⟩ := e
    exact ⟨[], ⟨rfl, Nat.le_refl _, Nat.zero_le _, Reads.none_, by simp⟩, by simp⟩
  · simp at e
    obtain ⟨rfl, rfl, rfl⟩ := e
    have hall : ∀ j, ∃ v : Vl, j < len → W.cells? 0 (x'.add (j * 3)) 3 = some (vc v) ∧ (In64 v.1 ∧ In64 v.2.1) ∧ ∀ M, (∀ k ∈ x.1.weights Tryd.prog 22, k ≤ M) → v.2.2.length ≤ M := by
      intro j
      by_cases hj : j < len
      · have h1 := hat j hj
        rw [cellsVl, List.getElem?_eq_getElem (by omega)] at h1
        obtain ⟨cs', hc, ht⟩ := Option.bind_eq_some_iff.1 h1
        obtain ⟨v, rfl, hv, hw⟩ := val_cells ht
        refine ⟨v, fun _ => ⟨hc, hv, fun M hM => hw M fun k hk => hM k ?_⟩⟩
        rw [hx]
        exact weights_slice Tryd.underlying22 (List.mem_map.2 ⟨_, List.getElem_mem _, rfl⟩) k hk
      · exact ⟨(0, 0, []), fun h => absurd h hj⟩
    obtain ⟨F, hF⟩ := Classical.axiomOfChoice hall
    have hus : ∀ j, j < len → ∀ i, i < 3 → W.cell? ((x'.add (j * 3)).add i) = (vc (F j))[i]? := fun j hj i hi => by
      obtain ⟨_, _, h2⟩ := World.cells?_some (hF j hj).1
      exact h2 i hi
    refine ⟨(List.range len).map F, ⟨by simp, hl, hcm, ⟨by rw [vs_length]; simp, fun hn => ⟨x', rfl, ?_, fun j u hu => ?_⟩⟩, fun z hz => ?_⟩, fun M hM z hz => ?_⟩
    · have h3 := hus 0 hn 0 (by omega)
      have := World.block_lt_of_cell? W _ (h3.trans (List.getElem?_eq_getElem (by simp [vc])))
      rwa [block_of_add, block_of_add] at this
    · have hj : j < len * 3 := by
        have := (List.getElem?_eq_some_iff.1 hu).1
        rw [vs_length] at this
        simpa using this
      have hk : j / 3 < len := by omega
      have hu' : ((List.range len).map F)[j / 3]? = some (F (j / 3)) := by rw [List.getElem?_map, List.getElem?_range hk]; rfl
      obtain ⟨q0, q1, q2⟩ := vs_at hu'
      have h6 := hus (j / 3) hk (j % 3) (by omega)
      rw [Go.Deep.add_add, show j / 3 * 3 + j % 3 = j by omega] at h6
      rw [h6]
      have hm3 : j % 3 = 0 ∨ j % 3 = 1 ∨ j % 3 = 2 := by omega
      rcases hm3 with h | h | h
      · rw [show j / 3 * 3 = j by omega, hu] at q0; rw [h, q0]; rfl
      · rw [show j / 3 * 3 + 1 = j by omega, hu] at q1; rw [h, q1]; rfl
      · rw [show j / 3 * 3 + 2 = j by omega, hu] at q2; rw [h, q2]; rfl
    · obtain ⟨j, hj, rfl⟩ := List.mem_map.1 hz
      exact (hF j (List.mem_range.1 hj)).2.1
    · obtain ⟨j, hj, rfl⟩ := List.mem_map.1 hz
      exact (hF j (List.mem_range.1 hj)).2.2 M hM
end
theorem cellsPd : Tryd.prog.cellsOf 25 = 4 := by kernel_rfl
theorem WfP.less : ∀ {f : Nat} {p : Pd} (j : Nat), WfP (f + j) p → WfP f p
  | 0, _, _, _ => trivial
  | f + 1, p, j, h => by
    rw [show f + 1 + j = (f + j) + 1 by omega] at h
    exact ⟨h.1, fun q hq => (h.2 q hq).less j⟩
theorem pd_of {H : Type} {enc : TypeId × Value → H} {W : World} : ∀ (fuel : Nat) {cs : List Value} {x : DataW H × List MemPlace}, DataW.trod enc Tryd.prog W 0 (fun _ => true) true fuel 25 cs = some x → ∃ f p, IsP f W (fun _ => False) cs p ∧ (∀ k, WfP k p) ∧ ∀ M, (∀ n ∈ x.1.weights Tryd.prog 25, n ≤ M) → ∀ k, LenP M k p := by
  intro fuel
  induction fuel using Nat.strongRecOn with
  | ind fuel IH =>
    intro cs x h
    obtain ⟨n, ys, rfl, hx, hlen, hfld⟩ := open_struct1 Tryd.underlying25 (by kernel_rfl) (by kernel_rfl) h
    obtain ⟨v0, y0, c0, _, t0⟩ := hfld 0 _ rfl
    obtain ⟨v1, y1, c1, _, t1⟩ := hfld 1 _ rfl
    obtain ⟨v2, y2, c2, gy2, t2⟩ := hfld 2 _ rfl
    obtain ⟨v3, y3, c3, gy3, t3⟩ := hfld 3 _ rfl
    obtain ⟨op, e0, _, w0⟩ := DataW.trod_int Tryd.underlying3 t0
    obtain ⟨col, e1, _, w1⟩ := DataW.trod_int Tryd.underlying3 t1
    injection e0 with e0
    injection e1 with e1
    subst e0 e1
    have hop : In64 op := by have := i64_of w0; unfold In64; omega
    have hcol : In64 col := by have := i64_of w1; unfold In64; omega
    have hv2 : ∃ A l c, v2 = .slice A l c := by
      rcases Go.Deep.open_slice Tryd.underlying22 t2 with ⟨e, _⟩ | ⟨a1, l1, c1, _, _, _, _, e, _⟩
      · exact ⟨none, 0, 0, by simpa using e⟩
      · exact ⟨some a1, l1, c1, by simpa using e⟩
    obtain ⟨A2, l2, k2, rfl⟩ := hv2
    obtain ⟨vl, hvl, hvm⟩ := vals2_of t2
    have hvM : ∀ M, (∀ n ∈ x.1.weights Tryd.prog 25, n ≤ M) → ∀ v ∈ vl, v.2.2.length ≤ M := fun M hM => hvm M fun k hk => hM k (by rw [hx]; exact weights_agg Tryd.underlying25 (j := 2) rfl gy2 k hk)
    obtain ⟨g1, g2, g3, g4, g5⟩ := hvl
    subst g1
    have hcs : ∀ v3', v3 = v3' → cs = [.int .i64 op, .int .i64 col, .slice A2 vl.length k2, v3'] := by
      intro v3' e
      subst e
      match cs, hlen, c0, c1, c2, c3 with
      | [a, b, c, d], _, c0, c1, c2, c3 =>
        simp at c0 c1 c2 c3
        rw [c0, c1, c2, c3]
    rcases DataW.trod_slice Tryd.underlying23 t3 with ⟨e, _⟩ | ⟨a, len, cap, elems, rest, m, hm, e, hx3, hb, hl, hcm, hel, hat, _, _⟩
    · have e3 : v3 = .slice none 0 0 := by simpa using e
      refine ⟨1, .mk op col vl [], ⟨A2, k2, none, 0, hcs _ e3, g4, ⟨fun _ _ _ h => h, g2⟩, fun _ _ _ h => h, [], rfl, Reads.none_, fun k q hk => by simp [Pd.parts] at hk⟩, fun k => ?_, fun M hM k => ?_⟩
      · cases k with
        | zero => trivial
        | succ k => exact ⟨⟨hop, hcol, g5⟩, fun q hq => by simp [Pd.parts] at hq⟩
      · cases k with
        | zero => trivial
        | succ k => exact ⟨hvM M hM, fun q hq => by simp [Pd.parts] at hq⟩
    · have e3 : v3 = .slice (some a) len cap := by simpa using e
      have hall : ∀ j, ∃ y : List Value × Nat × Pd, j < len → W.cells? 0 (a.add (j * 4)) 4 = some y.1 ∧ IsP y.2.1 W (fun _ => False) y.1 y.2.2 ∧ (∀ k, WfP k y.2.2) ∧ ∀ M, (∀ n ∈ x.1.weights Tryd.prog 25, n ≤ M) → ∀ k, LenP M k y.2.2 := by
        intro j
        by_cases hj : j < len
        · have h1 := hat j hj
          rw [cellsPd, List.getElem?_eq_getElem (by omega)] at h1
          obtain ⟨cs', hc, ht⟩ := Option.bind_eq_some_iff.1 h1
          obtain ⟨f, p, hI, hW, hL⟩ := IH m (by omega) ht
          refine ⟨(cs', f, p), fun _ => ⟨hc, hI, hW, fun M hM => hL M fun k hk => hM k ?_⟩⟩
          rw [hx]
          refine weights_agg Tryd.underlying25 (j := 3) rfl gy3 k ?_
          rw [hx3]
          exact weights_slice Tryd.underlying23 (List.mem_map.2 ⟨_, List.getElem_mem _, rfl⟩) k hk
        · exact ⟨([], 0, Pd.none_), fun h => absurd h hj⟩
      obtain ⟨F, hF⟩ := Classical.axiomOfChoice hall
      have hmax : ∀ n, ∃ M, ∀ j, j < n → (F j).2.1 ≤ M := by
        intro n
        induction n with
        | zero => exact ⟨0, fun j h => absurd h (Nat.not_lt_zero _)⟩
        | succ n ih =>
          obtain ⟨M, hM⟩ := ih
          refine ⟨max M (F n).2.1, fun j hj => ?_⟩
          by_cases h : j < n
          · have := hM j h; omega
          · obtain rfl : j = n := by omega
            omega
      obtain ⟨M, hM⟩ := hmax len
      have hpl : ((List.range len).map fun j => (F j).2.2).length = len := by simp
      have hus : ∀ j, j < len → (F j).1.length = 4 ∧ ∀ i, i < 4 → W.cell? ((a.add (j * 4)).add i) = (F j).1[i]? := fun j hj => by
        obtain ⟨_, h1, h2⟩ := World.cells?_some (hF j hj).1
        exact ⟨h1, fun i hi => h2 i hi⟩
      have hreads : Reads W W.heap.size 4 (some a) len (((List.range len).map fun j => (F j).1).flatten) := by
        have h4 : ∀ u ∈ (List.range len).map fun j => (F j).1, u.length = 4 := fun u hu => by
          obtain ⟨j, hj, rfl⟩ := List.mem_map.1 hu
          exact (hus j (List.mem_range.1 hj)).1
        refine ⟨by rw [flat4_length h4]; simp, fun hn => ⟨a, rfl, ?_, fun j u hu => ?_⟩⟩
        · obtain ⟨h1, h2⟩ := hus 0 hn
          have h3 := h2 0 (by omega)
          rw [List.getElem?_eq_getElem (by omega)] at h3
          have := World.block_lt_of_cell? W _ h3
          rwa [block_of_add, block_of_add] at this
        · have hj : j < len * 4 := by
            have := (List.getElem?_eq_some_iff.1 hu).1
            rw [flat4_length h4] at this
            simpa using this
          have hk : j / 4 < len := by omega
          have hu' : ((List.range len).map fun j => (F j).1)[j / 4]? = some (F (j / 4)).1 := by rw [List.getElem?_map, List.getElem?_range hk]; rfl
          have h5 := flat4 h4 hu' (j := j % 4) (by omega)
          rw [show j / 4 * 4 + j % 4 = j by omega, hu] at h5
          have h6 := (hus (j / 4) hk).2 (j % 4) (by omega)
          rw [Go.Deep.add_add, show j / 4 * 4 + j % 4 = j by omega] at h6
          rw [h6, ← h5]
      refine ⟨M + 1, .mk op col vl ((List.range len).map fun j => (F j).2.2), ⟨A2, k2, some a, cap, ?_, g4, ⟨fun _ _ _ h => h, g2⟩, fun _ _ _ h => h, (List.range len).map fun j => (F j).1, by simp [Pd.parts], ?_, fun k q hk => ?_⟩, fun k => ?_, fun M hM k => ?_⟩
      · rw [hcs _ e3]
        simp [Pd.op, Pd.col, Pd.vals, Pd.parts]
      · show Reads W W.heap.size 4 (some a) ((List.range len).map fun j => (F j).2.2).length _
        rw [hpl]; exact hreads
      · have hk' : ((List.range len).map fun j => (F j).2.2)[k]? = some q := hk
        have hj : k < len := by
          have := (List.getElem?_eq_some_iff.1 hk').1
          simpa using this
        rw [List.getElem?_map, List.getElem?_range hj] at hk'
        injection hk' with hk'
        refine ⟨(F k).1, by rw [List.getElem?_map, List.getElem?_range hj]; rfl, ?_⟩
        rw [← hk']
        have h1 := (hF k hj).2.1.fuel (M - (F k).2.1)
        rwa [show (F k).2.1 + (M - (F k).2.1) = M by have := hM k hj; omega] at h1
      · cases k with
        | zero => trivial
        | succ k =>
          refine ⟨⟨hop, hcol, g5⟩, fun q hq => ?_⟩
          obtain ⟨j, hj, rfl⟩ := List.mem_map.1 hq
          exact (hF j (List.mem_range.1 hj)).2.2.1 k
      · cases k with
        | zero => trivial
        | succ k =>
          refine ⟨hvM M hM, fun q hq => ?_⟩
          obtain ⟨j, hj, rfl⟩ := List.mem_map.1 hq
          exact (hF j (List.mem_range.1 hj)).2.2.2 M hM k
end Go.Proofs.YtobophhlcekngaaDoor

/- The three cells of a block. No program; no condition. -/
namespace Go.Proofs.YtobophhlcekngaaDoor
open Go.RowKit
set_option linter.unusedVariables false
set_option linter.unusedSimpArgs false
set_option maxRecDepth 100000

theorem blk3 {w : World} {g : Nat} {t : TypeId} {a b c : Value} (h : Blk w g t #[a, b, c]) : w.cell? ⟨g, 0, none⟩ = some a ∧ w.cell? ⟨g, 1, none⟩ = some b ∧ w.cell? ⟨g, 2, none⟩ = some c := ⟨h.cell 0, h.cell 1, h.cell 2⟩
end Go.Proofs.YtobophhlcekngaaDoor

/- The program's order of values, told by a contract. -/
namespace Go.Proofs.YtobophhlcekngaaDoor
open Go.RowKit
set_option linter.unusedVariables false
set_option linter.unusedSimpArgs false
set_option maxRecDepth 100000

/-- The program's order of values is the document's. -/
def CmpC : Prop := ∀ (a b : Vl) (w : World), Calls Tryd.prog 20 #[vW a, vW b] w fun e w' => e = .returned (.int .i64 (cmpV a b)) ∧ Below w.heap.size w w'
end Go.Proofs.YtobophhlcekngaaDoor

/- Contracts of the library's cmp.Compare (over int, int64, string) and of package value's Cmp: the order of values. Nothing that was there changes. -/
namespace Go.Proofs.YtobophhlcekngaaDoor
open Go.RowKit
set_option linter.unusedVariables false
set_option linter.unusedSimpArgs false
set_option maxRecDepth 100000
attribute [local go_sem] binOp_gtr_tx

/-- The order of numbers, of texts. -/
def cmpI (x y : Int) : Int := if x < y then -1 else if y < x then 1 else 0
def cmpT (x y : Tx) : Int := if tlt x y then -1 else if tlt y x then 1 else 0
theorem cmpV_is (a b : Vl) : cmpV a b = if a.1 = b.1 then (if a.1 = 1 then cmpI a.2.1 b.2.1 else if a.1 = 2 then cmpT a.2.2 b.2.2 else 0) else cmpI a.1 b.1 := by
  unfold cmpI cmpT
  rcases cmp_cases a b with ⟨h, e⟩ | ⟨h, e⟩ | ⟨h0, ⟨k, ⟨h, e⟩ | ⟨h, e⟩ | ⟨h, e⟩⟩ | ⟨k, ⟨h, e⟩ | ⟨h, e⟩ | ⟨h, e⟩⟩ | ⟨k1, k2, e⟩⟩
  · rw [e, if_neg (by omega), if_pos h]
  · rw [e, if_neg (by omega), if_neg (by omega), if_pos h]
  · rw [e, if_pos h0, if_pos k, if_pos h]
  · rw [e, if_pos h0, if_pos k, if_neg (by omega), if_pos h]
  · rw [e, if_pos h0, if_pos k, if_neg (by omega), if_neg (by omega)]
  · rw [e, if_pos h0, if_neg (by omega), if_pos k, if_pos h]
  · rw [e, if_pos h0, if_neg (by omega), if_pos k, if_neg (tlt_asymm h), if_pos h]
  · rw [e, if_pos h0, if_neg (by omega), if_pos k, h, if_neg (tlt_irrefl _), if_neg (tlt_irrefl _)]
  · rw [e, if_pos h0, if_neg k1, if_neg k2]
theorem isNaN_int (x : Int) (w : World) : Calls Tryd.prog 40 #[.int .i64 x] w fun e w' => e = .returned (.bool false) ∧ w = w' := by
  go_enter Tryd.func40, Tryd.ntmps40
  go_wp2_with fail
  go_ret
  exact ⟨by first | rfl | simp, rfl⟩
theorem isNaN_int64 (x : Int) (w : World) : Calls Tryd.prog 41 #[.int .i64 x] w fun e w' => e = .returned (.bool false) ∧ w = w' := by
  go_enter Tryd.func41, Tryd.ntmps41
  go_wp2_with fail
  go_ret
  exact ⟨by first | rfl | simp, rfl⟩
theorem isNaN_tx (x : Tx) (w : World) : Calls Tryd.prog 42 #[.string ⟨x.toArray⟩] w fun e w' => e = .returned (.bool false) ∧ w = w' := by
  go_enter Tryd.func42, Tryd.ntmps42
  go_wp2_with fail
  go_ret
  exact ⟨by first | rfl | simp, rfl⟩
theorem compare_int (x y : Int) (w : World) : Calls Tryd.prog 31 #[.int .i64 x, .int .i64 y] w fun e w' => e = .returned (.int .i64 (cmpI x y)) ∧ w = w' := by
  obtain ⟨r, hr⟩ : ∃ r, cmpI x y = r := ⟨_, rfl⟩
  rw [hr]
  unfold cmpI at hr
  have H1 := Lib.hid (isNaN_int x); have H2 := Lib.hid (isNaN_int y)
  go_enter Tryd.func31, Tryd.ntmps31
  go_wp2_with fail
  refine (H1.out _).mono ?_
  rintro e w' ⟨rfl, rfl⟩
  go_wp2_with fail
  refine (H2.out _).mono ?_
  rintro e w' ⟨rfl, rfl⟩
  by_cases h1 : x < y
  · rw [if_pos h1] at hr
    subst hr
    go_wp2_with fail
    go_ret
    exact ⟨rfl, rfl⟩
  · rw [if_neg h1] at hr
    by_cases h2 : y < x
    · rw [if_pos h2] at hr
      subst hr
      go_wp2_with fail
      go_ret
      exact ⟨rfl, rfl⟩
    · rw [if_neg h2] at hr
      subst hr
      go_wp2_with fail
      go_ret
      exact ⟨rfl, rfl⟩
theorem compare_int64 (x y : Int) (w : World) : Calls Tryd.prog 32 #[.int .i64 x, .int .i64 y] w fun e w' => e = .returned (.int .i64 (cmpI x y)) ∧ w = w' := by
  obtain ⟨r, hr⟩ : ∃ r, cmpI x y = r := ⟨_, rfl⟩
  rw [hr]
  unfold cmpI at hr
  have H1 := Lib.hid (isNaN_int64 x); have H2 := Lib.hid (isNaN_int64 y)
  go_enter Tryd.func32, Tryd.ntmps32
  go_wp2_with fail
  refine (H1.out _).mono ?_
  rintro e w' ⟨rfl, rfl⟩
  go_wp2_with fail
  refine (H2.out _).mono ?_
  rintro e w' ⟨rfl, rfl⟩
  by_cases h1 : x < y
  · rw [if_pos h1] at hr
    subst hr
    go_wp2_with fail
    go_ret
    exact ⟨rfl, rfl⟩
  · rw [if_neg h1] at hr
    by_cases h2 : y < x
    · rw [if_pos h2] at hr
      subst hr
      go_wp2_with fail
      go_ret
      exact ⟨rfl, rfl⟩
    · rw [if_neg h2] at hr
      subst hr
      go_wp2_with fail
      go_ret
      exact ⟨rfl, rfl⟩
theorem compare_tx (x y : Tx) (w : World) : Calls Tryd.prog 33 #[.string ⟨x.toArray⟩, .string ⟨y.toArray⟩] w fun e w' => e = .returned (.int .i64 (cmpT x y)) ∧ w = w' := by
  obtain ⟨r, hr⟩ : ∃ r, cmpT x y = r := ⟨_, rfl⟩
  rw [hr]
  unfold cmpT at hr
  have H1 := Lib.hid (isNaN_tx x); have H2 := Lib.hid (isNaN_tx y)
  go_enter Tryd.func33, Tryd.ntmps33
  go_wp2_with fail
  refine (H1.out _).mono ?_
  rintro e w' ⟨rfl, rfl⟩
  go_wp2_with fail
  refine (H2.out _).mono ?_
  rintro e w' ⟨rfl, rfl⟩
  by_cases h1 : tlt x y
  · rw [if_pos h1] at hr
    subst hr
    have l1 := less_of h1
    have g1 : decide (tlt x y) = true := by simp [h1]
    clear h1
    go_wp2_with fail
    go_ret
    exact ⟨rfl, rfl⟩
  · rw [if_neg h1] at hr
    have l1 := less_not h1
    have g1 : decide (tlt x y) = false := by simp [h1]
    by_cases h2 : tlt y x
    · rw [if_pos h2] at hr
      subst hr
      have g2 : decide (tlt y x) = true := by simp [h2]
      clear h1 h2
      go_wp2_with fail
      go_ret
      exact ⟨rfl, rfl⟩
    · rw [if_neg h2] at hr
      subst hr
      have g2 : decide (tlt y x) = false := by simp [h2]
      clear h1 h2
      go_wp2_with fail
      go_ret
      exact ⟨rfl, rfl⟩
set_option maxHeartbeats 1000000 in
theorem cmpC_any : CmpC := by
  intro a b w
  have hR := cmpV_is a b
  obtain ⟨r, hr⟩ : ∃ r, cmpV a b = r := ⟨_, rfl⟩
  rw [hr] at hR ⊢
  obtain ⟨a0, a1, za⟩ := a
  obtain ⟨b0, b1, zb⟩ := b
  simp only at hR
  clear hr
  unfold vW
  simp only
  have hB : Below w.heap.size w ((w.alloc (.cells #[.int .i64 a0, .int .i64 a1, .string ⟨za.toArray⟩] 34)).alloc (.cells #[.int .i64 b0, .int .i64 b1, .string ⟨zb.toArray⟩] 34)) :=
    ((Below.refl _ _).alloc (Nat.le_refl _) _).alloc (by simp) _
  by_cases h0 : a0 = b0
  · subst h0
    rw [if_pos rfl] at hR
    by_cases k1 : a0 = 1
    · subst k1
      rw [if_pos rfl] at hR
      subst hR
      have H := Lib.hid (compare_int64 a1 b1)
      go_enter Tryd.func20, Tryd.ntmps20
      go_wp2_with fail
      refine (H.out _).mono ?_
      rintro e w' ⟨rfl, rfl⟩
      go_wp2_with fail
      go_ret
      exact ⟨rfl, hB⟩
    · by_cases k2 : a0 = 2
      · subst k2
        rw [if_neg (by decide), if_pos rfl] at hR
        subst hR
        have H := Lib.hid (compare_tx za zb)
        go_enter Tryd.func20, Tryd.ntmps20
        go_wp2_with fail
        refine (H.out _).mono ?_
        rintro e w' ⟨rfl, rfl⟩
        go_wp2_with fail
        go_ret
        exact ⟨rfl, hB⟩
      · rw [if_neg k1, if_neg k2] at hR
        subst hR
        have q1 : (a0 == 1) = false := by simp [k1]
        have q2 : (a0 == 2) = false := by simp [k2]
        clear k1 k2
        go_enter Tryd.func20, Tryd.ntmps20
        go_wp2_with fail
        go_ret
        exact ⟨rfl, hB⟩
  · rw [if_neg h0] at hR
    subst hR
    have q1 : (a0 != b0) = true := by simp [h0]
    have H := Lib.hid (compare_int a0 b0)
    clear h0
    go_enter Tryd.func20, Tryd.ntmps20
    go_wp2_with fail
    refine (H.out _).mono ?_
    rintro e w' ⟨rfl, rfl⟩
    go_wp2_with fail
    go_ret
    exact ⟨rfl, hB⟩
end Go.Proofs.YtobophhlcekngaaDoor

/- Contracts of ofOthers' own tests: ahead, within both ends, the only one. -/
namespace Go.Proofs.YtobophhlcekngaaDoor
open Go.RowKit
set_option linter.unusedVariables false
set_option linter.unusedSimpArgs false
set_option maxRecDepth 100000

theorem ahead_any (a b : Vl) (w : World) : Calls Tryd.prog 46 #[vW a, vW b] w fun e w' => e = .returned (.bool (ahV a b)) ∧ Below w.heap.size w w' := by
  have HC := Lib.hid fun (W : World) => cmpC_any a b W
  obtain ⟨a0, a1, za⟩ := a
  obtain ⟨b0, b1, zb⟩ := b
  unfold ahV
  obtain ⟨k, hk⟩ : ∃ k, cmpV (a0, a1, za) (b0, b1, zb) = k := ⟨_, rfl⟩
  rw [hk] at HC ⊢
  simp only [vW] at HC ⊢
  clear hk
  go_enter Tryd.func46, Tryd.ntmps46
  go_wp2_with fail
  refine (HC.out _).mono ?_
  rintro e w1 ⟨rfl, hb⟩
  go_wp2_with fail
  go_ret
  exact ⟨rfl, (((Below.refl w.heap.size w).alloc (Nat.le_refl _) _).alloc (by simp) _).trans (hb.mono (by simp; omega))⟩
/-- What the tests capture: the first of them, the least, the greatest. -/
structure Ends (w : World) (h m g : Nat) (mn mx : Vl) : Prop where
  fn : Blk w h 87 #[.func (.func 46) #[] #[]]
  mn : Blk w m 34 #[.int .i64 mn.1, .int .i64 mn.2.1, .string ⟨mn.2.2.toArray⟩]
  mx : Blk w g 34 #[.int .i64 mx.1, .int .i64 mx.2.1, .string ⟨mx.2.2.toArray⟩]
theorem Ends.next {w w' : World} {h m g : Nat} {mn mx : Vl} (c : Ends w h m g mn mx) (hb : Below w.heap.size w w') : Ends w' h m g mn mx := ⟨c.fn.below hb c.fn.lt, c.mn.below hb c.mn.lt, c.mx.below hb c.mx.lt⟩
section
variable {w : World} {h m g : Nat} {mn mx : Vl}
set_option maxHeartbeats 1000000 in
theorem within_any (u : Vl) (hC : Ends w h m g mn mx) :
    Calls Tryd.prog 47 #[vW u, .pointer (some ⟨h, 0, none⟩), .pointer (some ⟨m, 0, none⟩), .pointer (some ⟨g, 0, none⟩)] w fun e w' => e = .returned (.bool (wiZ mn mx u)) ∧ Below w.heap.size w w' := by
  have H1 := Lib.hid fun (W : World) => ahead_any u mn W
  have H2 := Lib.hid fun (W : World) => ahead_any mx u W
  obtain ⟨u0, u1, zu⟩ := u
  obtain ⟨m0, m1, zm⟩ := mn
  obtain ⟨n0, n1, zn⟩ := mx
  unfold wiZ
  obtain ⟨a, ha⟩ : ∃ a, ahV (u0, u1, zu) (m0, m1, zm) = a := ⟨_, rfl⟩
  obtain ⟨b, hb⟩ : ∃ b, ahV (n0, n1, zn) (u0, u1, zu) = b := ⟨_, rfl⟩
  rw [ha] at H1 ⊢
  rw [hb] at H2 ⊢
  simp only [vW] at H1 H2 ⊢
  have hbx : Below w.heap.size w (w.alloc (.cells #[.int .i64 u0, .int .i64 u1, .string ⟨zu.toArray⟩] 34)) := (Below.refl _ _).alloc (Nat.le_refl _) _
  have hk := Blk.new w 34 #[.int .i64 u0, .int .i64 u1, .string ⟨zu.toArray⟩]
  have h1 := hC.next hbx
  have HB := Lib.hid hbx; have HK := Lib.hid hk; have HE := Lib.hid h1
  obtain ⟨x0, x1, x2⟩ := blk3 hk
  have e0 := h1.fn.cell 0
  obtain ⟨y0, y1, y2⟩ := blk3 h1.mn
  obtain ⟨z0, z1, z2⟩ := blk3 h1.mx
  clear ha hb hC hbx hk h1
  cases a
  · go_enter Tryd.func47, Tryd.ntmps47
    go_wp2_with fail
    refine (H1.out _).mono ?_
    rintro e w1 ⟨rfl, hb⟩
    have h2 := HE.out.next hb
    clear x0 x1 x2 e0 y0 y1 y2 z0 z1 z2
    obtain ⟨x0, x1, x2⟩ := blk3 (HK.out.below hb HK.out.lt)
    have e0 := h2.fn.cell 0
    obtain ⟨z0, z1, z2⟩ := blk3 h2.mx
    have hb1 := Lib.hid (HB.out.trans (hb.mono HB.out.size))
    clear h2 HB HK HE hb
    go_wp2_with fail
    refine (H2.out _).mono ?_
    rintro e w2 ⟨rfl, hb⟩
    go_wp2_with fail
    go_ret
    exact ⟨by first | rfl | simp, hb1.out.trans (hb.mono hb1.out.size)⟩
  · go_enter Tryd.func47, Tryd.ntmps47
    go_wp2_with fail
    refine (H1.out _).mono ?_
    rintro e w1 ⟨rfl, hb⟩
    go_wp2_with fail
    go_ret
    exact ⟨by first | rfl | simp, HB.out.trans (hb.mono HB.out.size)⟩
set_option maxHeartbeats 1000000 in
theorem alone_any (u : Vl) (hC : Ends w h m g mn mx) :
    Calls Tryd.prog 48 #[vW u, .pointer (some ⟨m, 0, none⟩), .pointer (some ⟨g, 0, none⟩)] w fun e w' => e = .returned (.bool (alZ mn mx u)) ∧ Below w.heap.size w w' := by
  have H1 := Lib.hid fun (W : World) => cmpC_any mn u W
  have H2 := Lib.hid fun (W : World) => cmpC_any mx u W
  obtain ⟨u0, u1, zu⟩ := u
  obtain ⟨m0, m1, zm⟩ := mn
  obtain ⟨n0, n1, zn⟩ := mx
  unfold alZ
  obtain ⟨a, ha⟩ : ∃ a, cmpV (m0, m1, zm) (u0, u1, zu) = a := ⟨_, rfl⟩
  obtain ⟨b, hb⟩ : ∃ b, cmpV (n0, n1, zn) (u0, u1, zu) = b := ⟨_, rfl⟩
  rw [ha] at H1 ⊢
  rw [hb] at H2 ⊢
  simp only [vW] at H1 H2 ⊢
  have hbx : Below w.heap.size w (w.alloc (.cells #[.int .i64 u0, .int .i64 u1, .string ⟨zu.toArray⟩] 34)) := (Below.refl _ _).alloc (Nat.le_refl _) _
  have hk := Blk.new w 34 #[.int .i64 u0, .int .i64 u1, .string ⟨zu.toArray⟩]
  have h1 := hC.next hbx
  have HB := Lib.hid hbx; have HK := Lib.hid hk; have HE := Lib.hid h1
  obtain ⟨x0, x1, x2⟩ := blk3 hk
  obtain ⟨y0, y1, y2⟩ := blk3 h1.mn
  obtain ⟨z0, z1, z2⟩ := blk3 h1.mx
  clear ha hb hC hbx hk h1
  by_cases hz : a = 0
  · have d1 : decide (a = 0) = true := by simpa using hz
    have d2 : (a == 0) = true := by simpa using hz
    rw [d1]
    have hq : (b == 0) = decide (b = 0) := by rw [Bool.eq_iff_iff]; simp
    obtain ⟨q, hq2⟩ : ∃ q, decide (b = 0) = q := ⟨_, rfl⟩
    rw [hq2] at hq ⊢
    clear hz d1 hq2
    go_enter Tryd.func48, Tryd.ntmps48
    go_wp2_with fail
    refine (H1.out _).mono ?_
    rintro e w1 ⟨rfl, hb⟩
    have h2 := HE.out.next hb
    clear x0 x1 x2 y0 y1 y2 z0 z1 z2
    obtain ⟨x0, x1, x2⟩ := blk3 (HK.out.below hb HK.out.lt)
    obtain ⟨z0, z1, z2⟩ := blk3 h2.mx
    have hb1 := Lib.hid (HB.out.trans (hb.mono HB.out.size))
    clear h2 HB HK HE hb
    go_wp2_with fail
    refine (H2.out _).mono ?_
    rintro e w2 ⟨rfl, hb⟩
    go_wp2_with fail
    go_ret
    exact ⟨by first | rfl | simp, hb1.out.trans (hb.mono hb1.out.size)⟩
  · have d1 : decide (a = 0) = false := by simpa using hz
    have d2 : (a == 0) = false := by simpa using hz
    rw [d1]
    clear hz d1
    go_enter Tryd.func48, Tryd.ntmps48
    go_wp2_with fail
    refine (H1.out _).mono ?_
    rintro e w1 ⟨rfl, hb⟩
    go_wp2_with fail
    go_ret
    exact ⟨by first | rfl | simp, HB.out.trans (hb.mono HB.out.size)⟩
end
end Go.Proofs.YtobophhlcekngaaDoor

/- The first place of a list of which a test is true. No program; no condition. -/
namespace Go.Proofs.YtobophhlcekngaaDoor
open Go.RowKit
set_option linter.unusedVariables false
set_option linter.unusedSimpArgs false
set_option maxRecDepth 100000

/-- The first place of which the test is true: all ahead of it are false. -/
def FstP (l : List Vl) (p : Vl → Bool) (K : Nat) : Prop := K ≤ l.length ∧ ∀ j u, l[j]? = some u → (j < K → p u = false) ∧ (j = K → p u = true)
theorem fstP_is (l : List Vl) (p : Vl → Bool) : ∃ K, FstP l p K ∧ (decide (K < l.length) = l.any p) := by
  induction l with
  | nil => exact ⟨0, ⟨Nat.le_refl _, fun j u h => by simp at h⟩, rfl⟩
  | cons v l ih =>
    cases hv : p v with
    | true =>
      refine ⟨0, ⟨Nat.zero_le _, fun j u h => ⟨fun h0 => absurd h0 (by omega), fun h0 => ?_⟩⟩, by simp [hv]⟩
      subst h0
      simp at h
      rw [← h]; exact hv
    | false =>
      obtain ⟨K, ⟨h1, h2⟩, h3⟩ := ih
      refine ⟨K + 1, ⟨by simp; omega, fun j u h => ?_⟩, by simp [hv, ← h3]⟩
      cases j with
      | zero =>
        simp at h
        refine ⟨fun _ => by rw [← h]; exact hv, fun e => by omega⟩
      | succ j =>
        simp at h
        exact ⟨fun e => (h2 j u h).1 (by omega), fun e => (h2 j u h).2 (by omega)⟩
end Go.Proofs.YtobophhlcekngaaDoor

/- Contracts of the library's slices.IndexFunc and ContainsFunc over values with ofOthers' own tests. -/
namespace Go.Proofs.YtobophhlcekngaaDoor
open Go.RowKit
set_option linter.unusedVariables false
set_option linter.unusedSimpArgs false
set_option maxRecDepth 100000

section
variable {w : World} {h m g : Nat} {mn mx : Vl}
set_option maxHeartbeats 1000000 in
theorem indexWi (A : Option Addr) (n c K : Nat) (l : List Vl) (hr : Reads w w.heap.size 3 A n (vs l)) (hn : n ≤ 65536) (hK : FstP l (wiZ mn mx) K) (hC : Ends w h m g mn mx) :
    Calls Tryd.prog 51 #[.slice A n c, .func (.func 47) #[] #[.pointer (some ⟨h, 0, none⟩), .pointer (some ⟨m, 0, none⟩), .pointer (some ⟨g, 0, none⟩)]] w fun e w' => e = .returned (.int .i64 (if K < n then (K : Int) else -1)) ∧ Below w.heap.size w w' := by
  have e1 : l.length = n := by have := hr.1; rw [vs_length] at this; omega
  obtain ⟨hKl, hKp⟩ := hK
  rw [e1] at hKl
  have HF := Lib.hid fun (u : Vl) (W : World) (hb : Below w.heap.size w W) => within_any u (hC.next hb)
  have HP := Lib.hid hKp; have HE := Lib.hid e1
  obtain ⟨res, hres⟩ : ∃ res : Int, res = if K < n then (K : Int) else -1 := ⟨_, rfl⟩
  rw [← hres]
  have HR := Lib.hid hres
  clear hKp e1 hres hC
  go_enter Tryd.func51, Tryd.ntmps51
  go_wp2_with fail
  go_loopw [8] (fun s wr => ∃ k : Nat, k ≤ K ∧ s = .int .i64 (k : Int) ∧ Below w.heap.size w wr) (fun i _ => n - (intOf i).toNat)
  case atStart => exact ⟨0, Nat.zero_le _, rfl, Below.refl _ _⟩
  case round =>
    obtain ⟨k, hk, rfl, hb⟩ := hrel
    by_cases hlt : k < n
    · obtain ⟨⟨v0, v1, v2⟩, hv⟩ : ∃ v, l[k]? = some v := ⟨_, List.getElem?_eq_getElem (by rw [HE.out]; exact hlt)⟩
      obtain ⟨b, o, rfl, hb0, x0, x1, x2⟩ := (hr.below hb).val hv
      have hc := HF.out (v0, v1, v2) wr hb
      have hp := HP.out k _ hv
      unfold vW at hc
      by_cases hkK : k < K
      · rw [hp.1 hkK] at hc
        have HC := Lib.hid hc
        clear hc hp hv
        go_wp2_with fail
        refine HC.out.mono ?_
        rintro e w2 ⟨rfl, hb2⟩
        go_wp2_with fail
        go_round
        case rel => exact ⟨k + 1, by omega, by go_num, hb.trans (hb2.mono hb.size)⟩
        case measure => simp [intOf]; omega
      · obtain rfl : k = K := by omega
        rw [hp.2 rfl] at hc
        have HC := Lib.hid hc
        clear hc hp hv
        go_wp2_with fail
        refine HC.out.mono ?_
        rintro e w2 ⟨rfl, hb2⟩
        go_wp2_with fail
        go_ret
        exact ⟨by rw [HR.out, if_pos hlt]; rfl, hb.trans (hb2.mono hb.size)⟩
    · go_wp2_with fail
      go_ret
      exact ⟨by rw [HR.out, if_neg (by omega)]; rfl, hb⟩
theorem containsWi (A : Option Addr) (n c : Nat) (l : List Vl) (hr : Reads w w.heap.size 3 A n (vs l)) (hn : n ≤ 65536) (hC : Ends w h m g mn mx) :
    Calls Tryd.prog 49 #[.slice A n c, .func (.func 47) #[] #[.pointer (some ⟨h, 0, none⟩), .pointer (some ⟨m, 0, none⟩), .pointer (some ⟨g, 0, none⟩)]] w fun e w' => e = .returned (.bool (l.any (wiZ mn mx))) ∧ Below w.heap.size w w' := by
  have e1 : l.length = n := by have := hr.1; rw [vs_length] at this; omega
  obtain ⟨K, hK, hany⟩ := fstP_is l (wiZ mn mx)
  have HI := Lib.hid (indexWi A n c K l hr hn hK hC)
  rw [e1] at hany
  obtain ⟨b, hb⟩ : ∃ b, (l.any (wiZ mn mx)) = b := ⟨_, rfl⟩
  rw [hb] at hany ⊢
  clear hr hK hC hb e1
  by_cases hlt : K < n
  case' pos =>
    rw [if_pos hlt] at HI
    have d1 : decide (0 ≤ (K : Int)) = true := by simp
    have hR : b = true := by rw [← hany]; simp [hlt]
  case' neg =>
    rw [if_neg hlt] at HI
    have hR : b = false := by rw [← hany]; simp [hlt]
  all_goals
    subst hR
    clear hany
    go_enter Tryd.func49, Tryd.ntmps49
    go_wp2_with fail
    refine HI.out.mono ?_
    rintro e w' ⟨rfl, hb⟩
    go_wp2_with fail
    go_ret
    exact ⟨rfl, hb⟩
set_option maxHeartbeats 1000000 in
theorem indexAl (A : Option Addr) (n c K : Nat) (l : List Vl) (hr : Reads w w.heap.size 3 A n (vs l)) (hn : n ≤ 65536) (hK : FstP l (alZ mn mx) K) (hC : Ends w h m g mn mx) :
    Calls Tryd.prog 51 #[.slice A n c, .func (.func 48) #[] #[.pointer (some ⟨m, 0, none⟩), .pointer (some ⟨g, 0, none⟩)]] w fun e w' => e = .returned (.int .i64 (if K < n then (K : Int) else -1)) ∧ Below w.heap.size w w' := by
  have e1 : l.length = n := by have := hr.1; rw [vs_length] at this; omega
  obtain ⟨hKl, hKp⟩ := hK
  rw [e1] at hKl
  have HF := Lib.hid fun (u : Vl) (W : World) (hb : Below w.heap.size w W) => alone_any u (hC.next hb)
  have HP := Lib.hid hKp; have HE := Lib.hid e1
  obtain ⟨res, hres⟩ : ∃ res : Int, res = if K < n then (K : Int) else -1 := ⟨_, rfl⟩
  rw [← hres]
  have HR := Lib.hid hres
  clear hKp e1 hres hC
  go_enter Tryd.func51, Tryd.ntmps51
  go_wp2_with fail
  go_loopw [8] (fun s wr => ∃ k : Nat, k ≤ K ∧ s = .int .i64 (k : Int) ∧ Below w.heap.size w wr) (fun i _ => n - (intOf i).toNat)
  case atStart => exact ⟨0, Nat.zero_le _, rfl, Below.refl _ _⟩
  case round =>
    obtain ⟨k, hk, rfl, hb⟩ := hrel
    by_cases hlt : k < n
    · obtain ⟨⟨v0, v1, v2⟩, hv⟩ : ∃ v, l[k]? = some v := ⟨_, List.getElem?_eq_getElem (by rw [HE.out]; exact hlt)⟩
      obtain ⟨b, o, rfl, hb0, x0, x1, x2⟩ := (hr.below hb).val hv
      have hc := HF.out (v0, v1, v2) wr hb
      have hp := HP.out k _ hv
      unfold vW at hc
      by_cases hkK : k < K
      · rw [hp.1 hkK] at hc
        have HC := Lib.hid hc
        clear hc hp hv
        go_wp2_with fail
        refine HC.out.mono ?_
        rintro e w2 ⟨rfl, hb2⟩
        go_wp2_with fail
        go_round
        case rel => exact ⟨k + 1, by omega, by go_num, hb.trans (hb2.mono hb.size)⟩
        case measure => simp [intOf]; omega
      · obtain rfl : k = K := by omega
        rw [hp.2 rfl] at hc
        have HC := Lib.hid hc
        clear hc hp hv
        go_wp2_with fail
        refine HC.out.mono ?_
        rintro e w2 ⟨rfl, hb2⟩
        go_wp2_with fail
        go_ret
        exact ⟨by rw [HR.out, if_pos hlt]; rfl, hb.trans (hb2.mono hb.size)⟩
    · go_wp2_with fail
      go_ret
      exact ⟨by rw [HR.out, if_neg (by omega)]; rfl, hb⟩
theorem containsAl (A : Option Addr) (n c : Nat) (l : List Vl) (hr : Reads w w.heap.size 3 A n (vs l)) (hn : n ≤ 65536) (hC : Ends w h m g mn mx) :
    Calls Tryd.prog 49 #[.slice A n c, .func (.func 48) #[] #[.pointer (some ⟨m, 0, none⟩), .pointer (some ⟨g, 0, none⟩)]] w fun e w' => e = .returned (.bool (l.any (alZ mn mx))) ∧ Below w.heap.size w w' := by
  have e1 : l.length = n := by have := hr.1; rw [vs_length] at this; omega
  obtain ⟨K, hK, hany⟩ := fstP_is l (alZ mn mx)
  have HI := Lib.hid (indexAl A n c K l hr hn hK hC)
  rw [e1] at hany
  obtain ⟨b, hb⟩ : ∃ b, (l.any (alZ mn mx)) = b := ⟨_, rfl⟩
  rw [hb] at hany ⊢
  clear hr hK hC hb e1
  by_cases hlt : K < n
  case' pos =>
    rw [if_pos hlt] at HI
    have d1 : decide (0 ≤ (K : Int)) = true := by simp
    have hR : b = true := by rw [← hany]; simp [hlt]
  case' neg =>
    rw [if_neg hlt] at HI
    have hR : b = false := by rw [← hany]; simp [hlt]
  all_goals
    subst hR
    clear hany
    go_enter Tryd.func49, Tryd.ntmps49
    go_wp2_with fail
    refine HI.out.mono ?_
    rintro e w' ⟨rfl, hb⟩
    go_wp2_with fail
    go_ret
    exact ⟨rfl, hb⟩
end
end Go.Proofs.YtobophhlcekngaaDoor

/- A function value that is made. No condition. -/
namespace Go.Proofs.YtobophhlcekngaaDoor
open Go.RowKit
theorem hmfP (fn : Fn) (first cap : Array Value) (w : World) : (Instr.makeFunc fn first cap).run Tryd.prog w = .ok (.func fn first cap) w := by rfl
end Go.Proofs.YtobophhlcekngaaDoor

/- A predicate in memory as the tree that zone's steps goes through: only parts that count, the last one first. No program; no condition. -/
namespace Go.Proofs.YtobophhlcekngaaDoor
open Go.RowKit
set_option linter.unusedVariables false
set_option linter.unusedSimpArgs false
set_option maxRecDepth 100000

/-- Does a predicate's every part count? -/
abbrev okT (cols : Nat) (t : Tr) : Prop := okZ cols t.p.op t.p.col t.p.vals.length t.p.parts.length
mutual
def prT (cols : Nat) : Tr → Tr | .mk b o p l => .mk b o p (if okZ cols p.op p.col p.vals.length p.parts.length then prL cols l else [])
def prL (cols : Nat) : List Tr → List Tr
  | [] => []
  | t :: l => prL cols l ++ [prT cols t]
end
theorem prT_b (cols : Nat) (t : Tr) : (prT cols t).b = t.b := by cases t; rfl
theorem prT_o (cols : Nat) (t : Tr) : (prT cols t).o = t.o := by cases t; rfl
theorem prT_p (cols : Nat) (t : Tr) : (prT cols t).p = t.p := by cases t; rfl
theorem prT_kids (cols : Nat) (t : Tr) : (prT cols t).kids = if okT cols t then prL cols t.kids else [] := by cases t; rw [prT]; rfl
theorem prL_is (cols : Nat) : ∀ l, prL cols l = (l.map (prT cols)).reverse
  | [] => rfl
  | t :: l => by rw [prL, prL_is cols l]; simp
/-- A node in memory, and its parts' places where they count. -/
def NodeZ (cols : Nat) (w : World) (B : Nat) (t : Tr) : Prop :=
  ∃ A c A' c', t.b < B ∧ w.cell? ⟨t.b, t.o, none⟩ = some (.int .i64 t.p.op) ∧ w.cell? ⟨t.b, t.o + 1, none⟩ = some (.int .i64 t.p.col) ∧ w.cell? ⟨t.b, t.o + 2, none⟩ = some (.slice A t.p.vals.length c) ∧ w.cell? ⟨t.b, t.o + 3, none⟩ = some (.slice A' t.p.parts.length c') ∧
    Reads w B 3 A t.p.vals.length (vs t.p.vals) ∧ t.p.vals.length ≤ 65536 ∧ t.p.parts.length ≤ 65536 ∧
    (okT cols t → t.kids.reverse.map (·.p) = t.p.parts ∧ ∀ i s, t.kids.reverse[i]? = some s → ∃ b o, A' = some ⟨b, o, none⟩ ∧ s.b = b ∧ s.o = o + i * 4 ∧ b < B) ∧ (¬ okT cols t → t.kids = [])
theorem NodeZ.kept {cols : Nat} {w w' : World} {B : Nat} {t : Tr} (h : NodeZ cols w B t) (hk : ∀ k, k < B → w'.heap[k]? = w.heap[k]?) : NodeZ cols w' B t := by
  obtain ⟨A, c, A', c', h1, h2, h3, h4, h5, h6, h7⟩ := h
  have hc : ∀ p : Addr, p.block < B → w'.cell? p = w.cell? p := fun p hp => World.cell?_of_block (hk _ hp)
  exact ⟨A, c, A', c', h1, (hc _ h1).trans h2, (hc _ h1).trans h3, (hc _ h1).trans h4, (hc _ h1).trans h5, h6.keep hc, h7⟩
theorem NodeZ.below {cols : Nat} {w w' : World} {B : Nat} {t : Tr} (h : NodeZ cols w B t) (hb : Below B w w') : NodeZ cols w' B t := h.kept hb.block
theorem cntL_map_le (cols : Nat) : ∀ n, (∀ t, cntT t ≤ n → cntT (prT cols t) ≤ cntT t) ∧ ∀ l, cntL l ≤ n → cntL (prL cols l) ≤ cntL l
  | 0 => ⟨fun t h => by have := cntT_pos t; omega, fun l h => by
      have := cntL_len l
      obtain rfl := List.eq_nil_of_length_eq_zero (show l.length = 0 by omega)
      simp [prL, cntL]⟩
  | n + 1 => by
    obtain ⟨ih1, ih2⟩ := cntL_map_le cols n
    have h1 : ∀ t, cntT t ≤ n + 1 → cntT (prT cols t) ≤ cntT t := fun t ht => by
      rw [cntT_eq] at ht
      rw [cntT_eq, cntT_eq t, prT_kids]
      split
      · have := ih2 t.kids (by omega); omega
      · simp [cntL]
    refine ⟨h1, fun l => ?_⟩
    induction l with
    | nil => intro _; simp [prL, cntL]
    | cons t l ih =>
      intro hl
      simp only [cntL] at hl
      rw [prL, cntL_append]
      simp only [cntL]
      have := h1 t (by omega); have := ih (by omega); omega
theorem cnt_prT (cols : Nat) (t : Tr) : cntT (prT cols t) ≤ cntT t := (cntL_map_le cols _).1 t (Nat.le_refl _)
theorem prT_all {cols : Nat} {w : World} {B : Nat} : ∀ n, (∀ t, cntT t ≤ n → allT (NodeAt w B) t → allT (NodeZ cols w B) (prT cols t)) ∧ ∀ l, cntL l ≤ n → allL (NodeAt w B) l → allL (NodeZ cols w B) (prL cols l)
  | 0 => ⟨fun t h => by have := cntT_pos t; omega, fun l h _ => by
      have := cntL_len l
      obtain rfl := List.eq_nil_of_length_eq_zero (show l.length = 0 by omega)
      simp [prL, allL]⟩
  | n + 1 => by
    obtain ⟨ih1, ih2⟩ := prT_all (cols := cols) (w := w) (B := B) n
    have h1 : ∀ t, cntT t ≤ n + 1 → allT (NodeAt w B) t → allT (NodeZ cols w B) (prT cols t) := fun t ht h => by
      rw [cntT_eq] at ht
      rw [allT_eq] at h ⊢
      obtain ⟨⟨A, c, A', c', g1, g2, g3, g4, g5, g6, g7, g8, g9, g10⟩, h2⟩ := h
      refine ⟨⟨A, c, A', c', by rw [prT_b]; exact g1, by rw [prT_b, prT_o, prT_p]; exact g2, by rw [prT_b, prT_o, prT_p]; exact g3, by rw [prT_b, prT_o, prT_p]; exact g4, by rw [prT_b, prT_o, prT_p]; exact g5, by rw [prT_p]; exact g6.1, by rw [prT_p]; exact g8, by rw [prT_p]; exact g9, fun hk => ?_, fun hk => ?_⟩, ?_⟩
      · have hk' : okT cols t := by unfold okT at hk ⊢; rw [prT_p] at hk; exact hk
        rw [prT_kids, if_pos hk', prL_is, List.reverse_reverse, prT_p]
        refine ⟨by rw [List.map_map, ← g7]; exact List.map_congr_left fun s _ => prT_p cols s, fun i s hs => ?_⟩
        rw [List.getElem?_map] at hs
        cases hi : t.kids[i]? with
        | none => rw [hi] at hs; cases hs
        | some u =>
          rw [hi] at hs
          injection hs with hs
          subst hs
          rw [prT_b, prT_o]
          exact g10 i u hi
      · have hk' : ¬ okT cols t := by unfold okT at hk ⊢; rw [prT_p] at hk; exact hk
        rw [prT_kids, if_neg hk']
      · rw [prT_kids]
        split
        · exact ih2 _ (by omega) h2
        · simp [allL]
    refine ⟨h1, fun l => ?_⟩
    induction l with
    | nil => intro _ _; simp [prL, allL]
    | cons t l ih =>
      intro hl h
      simp only [cntL] at hl
      simp only [allL] at h
      rw [prL, allL_append]
      simp only [allL]
      exact ⟨ih (by omega) h.2, h1 t (by omega) h.1, trivial⟩
/-- The tree that is gone through. -/
theorem prT_at {cols : Nat} {w : World} {B : Nat} {t : Tr} (h : allT (NodeAt w B) t) : allT (NodeZ cols w B) (prT cols t) := (prT_all _).1 t (Nat.le_refl _) h
/-- So big: so few. -/
theorem szV_few (most : Int) : ∀ (l : List Vl) (n : Int), n ≤ l.foldl (fun n v => if n ≤ most then n + 1 + (v.2.2.length : Int) else n) n ∧ (l.foldl (fun n v => if n ≤ most then n + 1 + (v.2.2.length : Int) else n) n ≤ most → n + (l.length : Int) ≤ most)
  | [], n => by simp
  | v :: l, n => by
    obtain ⟨h1, h2⟩ := szV_few most l (if n ≤ most then n + 1 + (v.2.2.length : Int) else n)
    rw [List.foldl_cons]
    split at h1 <;> rename_i h
    · rw [if_pos h] at h2 ⊢
      refine ⟨by omega, fun h3 => ?_⟩
      have := h2 h3
      rw [List.length_cons]; omega
    · rw [if_neg h] at h2 ⊢
      refine ⟨h1, fun h3 => ?_⟩
      omega
theorem szP_one (most : Int) (hm : 0 ≤ most) : ∀ (d : Nat) (p : Pd), 1 ≤ szP most d p
  | 0, p => by simp [szP]; omega
  | d + 1, p => by
    have hp : ∀ (l : List Pd) (n : Int), 1 ≤ n → 1 ≤ l.foldl (fun n q => if n ≤ most then n + szP most d q else n) n := by
      intro l
      induction l with
      | nil => exact fun n h => h
      | cons q l ih =>
        intro n h
        rw [List.foldl_cons]
        refine ih _ ?_
        have := szP_one most hm d q
        split <;> omega
    exact hp _ _ (szV_few most p.vals 1).1
/-- What is small has few values and parts, and few predicates in all. -/
theorem sz_small (most : Int) (hm : 0 ≤ most) (hm2 : most ≤ 65536) : ∀ (d : Nat) (p : Pd), szP most d p ≤ most → (∀ f, Small f p) ∧ (ndP p : Int) ≤ szP most d p
  | 0, p, h => by simp [szP] at h; omega
  | d + 1, p, h => by
    have hv := szV_few most p.vals 1
    have hp : ∀ (l : List Pd) (n : Int), 0 ≤ n → n ≤ l.foldl (fun n q => if n ≤ most then n + szP most d q else n) n ∧ (l.foldl (fun n q => if n ≤ most then n + szP most d q else n) n ≤ most → n + (l.length : Int) ≤ most ∧ n + (ndL l : Int) ≤ l.foldl (fun n q => if n ≤ most then n + szP most d q else n) n ∧ ∀ q ∈ l, ∀ f, Small f q) := by
      intro l
      induction l with
      | nil => intro n _; simp [ndL]
      | cons q l ih =>
        intro n hn0
        rw [List.foldl_cons]
        have hq := szP_one most hm d q
        obtain ⟨h1, h2⟩ := ih (if n ≤ most then n + szP most d q else n) (by split <;> omega)
        split at h1 <;> rename_i hn
        · rw [if_pos hn] at h2 ⊢
          refine ⟨by omega, fun h3 => ?_⟩
          obtain ⟨g1, g2, g3⟩ := h2 h3
          obtain ⟨k1, k2⟩ := sz_small most hm hm2 d q (by omega)
          refine ⟨by rw [List.length_cons]; omega, by rw [ndL]; omega, fun u hu => ?_⟩
          rcases List.mem_cons.1 hu with rfl | hu
          · exact k1
          · exact g3 u hu
        · rw [if_neg hn] at h2 ⊢
          refine ⟨h1, fun h3 => ?_⟩
          omega
    have h0 : szP most (d + 1) p = p.parts.foldl (fun n q => if n ≤ most then n + szP most d q else n) (p.vals.foldl (fun n v => if n ≤ most then n + 1 + (v.2.2.length : Int) else n) 1) := rfl
    rw [h0] at h ⊢
    obtain ⟨h1, h2⟩ := hp p.parts (p.vals.foldl (fun n v => if n ≤ most then n + 1 + (v.2.2.length : Int) else n) 1) (by have := hv.1; omega)
    obtain ⟨g1, g2, g3⟩ := h2 h
    have hvl := hv.2 (by omega)
    refine ⟨fun f => ?_, by rw [ndP_eq]; have := hv.1; omega⟩
    cases f with
    | zero => trivial
    | succ f => exact ⟨by omega, by have := hv.1; omega, fun q hq => g3 q hq f⟩
end Go.Proofs.YtobophhlcekngaaDoor

/- Rows of a column's values: one that is made; one that is filled in order; one that is the call's own. No condition. -/
namespace Go.Proofs.YtobophhlcekngaaDoor
open Go.RowKit
set_option linter.unusedVariables false
set_option linter.unusedSimpArgs false
set_option maxRecDepth 100000

theorem info_val : (Tryd.prog.info? 34).map (fun i => (i.zero, i.size, i.bytes)) = some (some (.agg #[.int .i64 0, .int .i64 0, .string ⟨#[]⟩]), 3, 32) := by kernel_rfl
theorem made_vs (n : Nat) : madeCells #[.int .i64 0, .int .i64 0, .string ⟨#[]⟩] (n * 3) = (vs (List.replicate n (0, 0, []))).toArray := by
  apply Array.ext'
  apply List.ext_getElem?
  intro j
  have hl : (vs (List.replicate n ((0 : Int), (0 : Int), ([] : Tx)))).length = n * 3 := by rw [vs_length, List.length_replicate]
  by_cases hj : j < n * 3
  · have hy : (List.replicate n ((0 : Int), (0 : Int), ([] : Tx)))[j / 3]? = some (0, 0, []) := by rw [List.getElem?_replicate, if_pos (by omega)]
    obtain ⟨h1, h2, h3⟩ := vs_at hy
    have hr : j % 3 = 0 ∧ j = j / 3 * 3 ∨ j % 3 = 1 ∧ j = j / 3 * 3 + 1 ∨ j % 3 = 2 ∧ j = j / 3 * 3 + 2 := by omega
    rcases hr with ⟨e, e'⟩ | ⟨e, e'⟩ | ⟨e, e'⟩
    · rw [← e'] at h1; rw [List.toList_toArray, h1]; simp [madeCells, hj, e]
    · rw [← e'] at h2; rw [List.toList_toArray, h2]; simp [madeCells, hj, e]
    · rw [← e'] at h3; rw [List.toList_toArray, h3]; simp [madeCells, hj, e]
  · rw [List.getElem?_eq_none (by simp [madeCells]; omega), List.getElem?_eq_none (by rw [List.toList_toArray]; omega)]
theorem run_make_vals (n : Nat) (hn : n ≤ 8796093022208) (w : World) :
    (Instr.makeSlice 22 (.int .i64 (n : Int)) (.int .i64 (n : Int))).run Tryd.prog w = .ok (.slice (some ⟨w.heap.size, 0, none⟩) n n) (w.alloc (.cells (vs (List.replicate n (0, 0, []))).toArray 34)) := by
  obtain ⟨i, hi, hz0, hz1, hz2⟩ := info_parts info_val
  have hr := run_make (P := Tryd.prog) w 22 34 i _ Tryd.underlying22 hi hz0 .i64 .i64 n n (by omega) (by omega) (by rw [hz2]; omega) (by omega)
  rw [hz1] at hr
  simp only [Int.toNat_natCast, Value.cells] at hr
  rw [made_vs] at hr
  exact hr
/-- A row of values of which 'k' are filled. -/
def fillV (o : List (Int × Int × Tx)) (k : Nat) : Array Value := (vs (o.take k ++ List.replicate (o.length - k) (0, 0, []))).toArray
theorem fillV_zero (o : List (Int × Int × Tx)) (n : Nat) (h : o.length = n) : fillV o 0 = (vs (List.replicate n (0, 0, []))).toArray := by unfold fillV; simp [h]
theorem fillV_all (o : List (Int × Int × Tx)) (n : Nat) (h : o.length = n) : fillV o n = (vs o).toArray := by
  unfold fillV
  rw [List.take_of_length_le (by omega), h, Nat.sub_self]; simp
theorem vs_set : ∀ (l : List (Int × Int × Tx)) (k : Nat) (v : Int × Int × Tx), (((vs l).set (k * 3) (.int .i64 v.1)).set (k * 3 + 1) (.int .i64 v.2.1)).set (k * 3 + 2) (.string ⟨v.2.2.toArray⟩) = vs (l.set k v)
  | [], k, v => by simp [vs]
  | x :: l, 0, v => by simp [vs_cons, vc]
  | x :: l, k + 1, v => by
    have ih := vs_set l k v
    rw [List.set_cons_succ, vs_cons, vs_cons, ← ih, show (k + 1) * 3 = k * 3 + 3 by omega]
    simp [vc]
theorem fillV_next (o : List (Int × Int × Tx)) (k : Nat) (v : Int × Int × Tx) (h : o[k]? = some v) :
    (((fillV o k).setIfInBounds (k * 3) (.int .i64 v.1)).setIfInBounds (k * 3 + 1) (.int .i64 v.2.1)).setIfInBounds (k * 3 + 2) (.string ⟨v.2.2.toArray⟩) = fillV o (k + 1) := by
  have hk : k < o.length := (List.getElem?_eq_some_iff.1 h).1
  unfold fillV
  rw [List.setIfInBounds_toArray, List.setIfInBounds_toArray, List.setIfInBounds_toArray, vs_set]
  congr 2
  apply List.ext_getElem?
  intro i
  rw [List.getElem?_set]
  by_cases hi : k = i
  · subst hi
    rw [if_pos rfl, if_pos (by simp; omega), List.getElem?_append_left (by simp; omega), List.getElem?_take, if_pos (by omega), h]
  · rw [if_neg hi]
    by_cases h2 : i < k
    · rw [List.getElem?_append_left (by simp; omega), List.getElem?_append_left (by simp; omega), List.getElem?_take, List.getElem?_take, if_pos h2, if_pos (by omega)]
    · rw [List.getElem?_append_right (by simp; omega), List.getElem?_append_right (by simp; omega), List.getElem?_replicate, List.getElem?_replicate]
      simp only [List.length_take]
      by_cases h3 : i < o.length
      · rw [if_pos (by omega), if_pos (by omega)]
      · rw [if_neg (by omega), if_neg (by omega)]
/-- The three cells at a place of such a row are stored. -/
theorem Blk.val {w : World} {h k : Nat} {t : TypeId} {o : List (Int × Int × Tx)} {v : Int × Int × Tx} (hb : Blk w h t (fillV o k)) (hv : o[k]? = some v) :
    Blk (((w.setCell ⟨h, k * 3, none⟩ (.int .i64 v.1)).setCell ⟨h, k * 3 + 1, none⟩ (.int .i64 v.2.1)).setCell ⟨h, k * 3 + 2, none⟩ (.string ⟨v.2.2.toArray⟩)) h t (fillV o (k + 1)) := by
  have := ((hb.set_ (k * 3) (.int .i64 v.1)).set_ (k * 3 + 1) (.int .i64 v.2.1)).set_ (k * 3 + 2) (.string ⟨v.2.2.toArray⟩)
  rwa [fillV_next o k v hv] at this
/-- What stands at a place that isn't filled yet. -/
theorem fillV_old (o : List (Int × Int × Tx)) (k j : Nat) (h : k ≤ j) (hj : j < o.length) : (fillV o k)[j * 3]? = some (.int .i64 0) ∧ (fillV o k)[j * 3 + 1]? = some (.int .i64 0) ∧ (fillV o k)[j * 3 + 2]? = some (.string ⟨#[]⟩) := by
  have hy : (o.take k ++ List.replicate (o.length - k) ((0 : Int), (0 : Int), ([] : Tx)))[j]? = some (0, 0, []) := by
    rw [List.getElem?_append_right (by rw [List.length_take]; omega), List.getElem?_replicate, if_pos (by rw [List.length_take]; omega)]
  obtain ⟨h1, h2, h3⟩ := vs_at hy
  unfold fillV
  rw [List.getElem?_toArray, List.getElem?_toArray, List.getElem?_toArray]
  exact ⟨h1, h2, h3⟩
/-- A place that stays nothing. -/
theorem fillV_skip (o : List (Int × Int × Tx)) (k : Nat) (h : o[k]? = some (0, 0, [])) : fillV o (k + 1) = fillV o k := by
  have hk : k < o.length := (List.getElem?_eq_some_iff.1 h).1
  unfold fillV
  congr 2
  apply List.ext_getElem?
  intro i
  by_cases h2 : i < k
  · rw [List.getElem?_append_left (by simp; omega), List.getElem?_append_left (by simp; omega), List.getElem?_take, List.getElem?_take, if_pos h2, if_pos (by omega)]
  · by_cases hi : i = k
    · subst hi
      rw [List.getElem?_append_left (by simp; omega), List.getElem?_take, if_pos (by omega), h, List.getElem?_append_right (by simp; omega), List.getElem?_replicate, if_pos (by simp; omega)]
    · rw [List.getElem?_append_right (by simp; omega), List.getElem?_append_right (by simp; omega), List.getElem?_replicate, List.getElem?_replicate]
      simp only [List.length_take]
      by_cases h3 : i < o.length
      · rw [if_pos (by omega), if_pos (by omega)]
      · rw [if_neg (by omega), if_neg (by omega)]
theorem own_whole3 {w : World} {B h n : Nat} {t : TypeId} {o : List (Int × Int × Tx)} (hb : Blk w h t (vs o).toArray) (hB : B ≤ h) (hn : o.length = n) (hm : n ≤ maxLen) :
    w.ownsRow B t 3 (.slice (some ⟨h, 0, none⟩) n n) n (vs o) := by
  have hl := vs_length o
  exact ⟨by omega, .inr ⟨h, n, (vs o).toArray, rfl, hB, hb, Nat.le_refl _, hm, by simp; omega, by simp; rw [List.take_of_length_le (by omega)]⟩⟩
end Go.Proofs.YtobophhlcekngaaDoor

/- Rows of zero columns and of zero predicates that are made. No condition. -/
namespace Go.Proofs.YtobophhlcekngaaDoor
open Go.RowKit
set_option linter.unusedVariables false
set_option linter.unusedSimpArgs false
set_option maxRecDepth 100000

theorem flat_rep (zs : List Value) (h : 0 < zs.length) : ∀ (n j : Nat), j < n * zs.length → (List.replicate n zs).flatten[j]? = zs[j % zs.length]?
  | 0, j, hj => by omega
  | n + 1, j, hj => by
    rw [List.replicate_succ, List.flatten_cons]
    by_cases hlt : j < zs.length
    · rw [List.getElem?_append_left hlt, Nat.mod_eq_of_lt hlt]
    · rw [List.getElem?_append_right (by omega), flat_rep zs h n (j - zs.length) (by rw [Nat.succ_mul] at hj; omega)]
      congr 1
      exact (Nat.mod_eq_sub_mod (by omega)).symm
theorem flat_rep_length (zs : List Value) (n : Nat) : (List.replicate n zs).flatten.length = n * zs.length := by simp
theorem made_gen (zs : List Value) (h : 0 < zs.length) (n : Nat) : madeCells zs.toArray (n * zs.length) = ((List.replicate n zs).flatten).toArray := by
  apply Array.ext'
  apply List.ext_getElem?
  intro j
  by_cases hj : j < n * zs.length
  · rw [List.toList_toArray, flat_rep zs h n j hj]
    have hm : j % zs.length < zs.length := Nat.mod_lt _ h
    simp [madeCells, hj, List.getElem?_eq_getElem hm, Array.getD, hm]
  · rw [List.getElem?_eq_none (by simp [madeCells]; omega), List.getElem?_eq_none (by rw [List.toList_toArray, flat_rep_length]; omega)]
/-- So many zero columns; so many zero predicates. -/
def zcl (n : Nat) : List Value := (List.replicate n [.int .i64 0, .bool false, .int .i64 0]).flatten
def zpd (n : Nat) : List Value := (List.replicate n [.int .i64 0, .int .i64 0, .slice none 0 0, .slice none 0 0]).flatten
theorem zcl_length (n : Nat) : (zcl n).length = n * 3 := flat_rep_length _ n
theorem zpd_length (n : Nat) : (zpd n).length = n * 4 := flat_rep_length _ n
theorem info_col0 : (Tryd.prog.info? 61).map (fun i => (i.zero, i.size, i.bytes)) = some (some (.agg #[.int .i64 0, .bool false, .int .i64 0]), 3, 24) := by kernel_rfl
theorem info_pred0 : (Tryd.prog.info? 25).map (fun i => (i.zero, i.size, i.bytes)) = some (some (.agg #[.int .i64 0, .int .i64 0, .slice none 0 0, .slice none 0 0]), 4, 64) := by kernel_rfl
theorem run_make_cols (n : Nat) (hn : n ≤ 1073741824) (w : World) :
    (Instr.makeSlice 58 (.int .i64 (n : Int)) (.int .i64 (n : Int))).run Tryd.prog w = .ok (.slice (some ⟨w.heap.size, 0, none⟩) n n) (w.alloc (.cells (zcl n).toArray 61)) := by
  obtain ⟨i, hi, hz0, hz1, hz2⟩ := info_parts info_col0
  have hr := run_make (P := Tryd.prog) w 58 61 i _ Tryd.underlying58 hi hz0 .i64 .i64 n n (by omega) (by omega) (by rw [hz2]; omega) (by omega)
  rw [hz1] at hr
  simp only [Int.toNat_natCast, Value.cells] at hr
  rw [show madeCells #[.int .i64 0, .bool false, .int .i64 0] (n * 3) = (zcl n).toArray from made_gen [.int .i64 0, .bool false, .int .i64 0] (by simp) n] at hr
  exact hr
theorem run_make_preds (n : Nat) (hn : n ≤ 1073741824) (w : World) :
    (Instr.makeSlice 23 (.int .i64 (n : Int)) (.int .i64 (n : Int))).run Tryd.prog w = .ok (.slice (some ⟨w.heap.size, 0, none⟩) n n) (w.alloc (.cells (zpd n).toArray 25)) := by
  obtain ⟨i, hi, hz0, hz1, hz2⟩ := info_parts info_pred0
  have hr := run_make (P := Tryd.prog) w 23 25 i _ Tryd.underlying23 hi hz0 .i64 .i64 n n (by omega) (by omega) (by rw [hz2]; omega) (by omega)
  rw [hz1] at hr
  simp only [Int.toNat_natCast, Value.cells] at hr
  rw [show madeCells #[.int .i64 0, .int .i64 0, .slice none 0 0, .slice none 0 0] (n * 4) = (zpd n).toArray from made_gen [.int .i64 0, .int .i64 0, .slice none 0 0, .slice none 0 0] (by simp) n] at hr
  exact hr
theorem reads_blkZ {w : World} {g n s : Nat} {t : TypeId} {xs : List Value} (hb : Blk w g t xs.toArray) (hl : xs.length = n * s) : Reads w w.heap.size s (some ⟨g, 0, none⟩) n xs :=
  ⟨hl, fun _ => ⟨_, rfl, hb.lt, fun j u hu => by rw [plain_add, Nat.zero_add, hb.cell j, List.getElem?_toArray]; exact hu⟩⟩
/-- A zero column's Kind. -/
theorem zcl_kind {w : World} {B n k : Nat} {A : Option Addr} (h : Reads w B 3 A n (zcl n)) (hk : k < n) : ∃ b o, A = some ⟨b, o, none⟩ ∧ b < B ∧ w.cell? ⟨b, o + k * 3, none⟩ = some (.int .i64 0) := by
  obtain ⟨⟨b, o, sp⟩, rfl, hb, hc⟩ := h.2 (by omega)
  have hl := zcl_length n
  obtain rfl : sp = none := by simpa [Addr.add] using World.cell?_spot (hc 0 _ (List.getElem?_eq_getElem (by omega)))
  refine ⟨b, o, rfl, hb, ?_⟩
  have h0 : (zcl n)[k * 3]? = some (.int .i64 0) := by
    rw [zcl, flat_rep _ (by simp) n (k * 3) (by simp; omega)]
    simp
  have := hc _ _ h0
  rwa [plain_add] at this
/-- A zero predicate's cells. -/
theorem zpd_at {w : World} {B n k : Nat} {A : Option Addr} (h : Reads w B 4 A n (zpd n)) (hk : k < n) : ∃ b o, A = some ⟨b, o, none⟩ ∧ b < B ∧ w.cell? ⟨b, o + k * 4, none⟩ = some (.int .i64 0) ∧ w.cell? ⟨b, o + k * 4 + 1, none⟩ = some (.int .i64 0) ∧ w.cell? ⟨b, o + k * 4 + 2, none⟩ = some (.slice none 0 0) ∧ w.cell? ⟨b, o + k * 4 + 3, none⟩ = some (.slice none 0 0) := by
  obtain ⟨⟨b, o, sp⟩, rfl, hb, hc⟩ := h.2 (by omega)
  have hl := zpd_length n
  obtain rfl : sp = none := by simpa [Addr.add] using World.cell?_spot (hc 0 _ (List.getElem?_eq_getElem (by omega)))
  have hj : ∀ j, j < 4 → (zpd n)[k * 4 + j]? = [Value.int .i64 0, .int .i64 0, .slice none 0 0, .slice none 0 0][j]? := fun j hj => by
    rw [zpd, flat_rep _ (by simp) n (k * 4 + j) (by simp; omega)]
    congr 1
    simp
    omega
  have h0 := hc _ _ (hj 0 (by omega)); have h1 := hc _ _ (hj 1 (by omega)); have h2 := hc _ _ (hj 2 (by omega)); have h3 := hc _ _ (hj 3 (by omega))
  rw [plain_add] at h0 h1 h2 h3
  exact ⟨b, o, rfl, hb, h0, by rw [Nat.add_assoc]; exact h1, by rw [Nat.add_assoc]; exact h2, by rw [Nat.add_assoc]; exact h3⟩
end Go.Proofs.YtobophhlcekngaaDoor
