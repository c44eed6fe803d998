/- Texts joined: OpenStruct Mem Vals PrMem PrCells PrFor Opened Yields PrShp ShpCard ZnPlain ZwPlain PdIn Blk3. -/
import Derived.Deep.Slices
import Derived.Deep.Fields
import Derived.ChangeSame
import Derived.ProofKit
import Derived.OpenShut
import Derived.Deep.QuietTactic
import Derived.BigQuiet
import Derived.Test.YtmjpjllbfgkfbaaDoorJ1
import Derived.Test.YtmjpjllbfgkfbaaDoorChecked
import Derived.Test.YtmjpjllbfgkfbaaDoorJ2
import Derived.Deep.RegionWith
import Derived.BigGuard
import Derived.Lib.QuietBelow
import Derived.Deep.DeepCutAuto
import Derived.Test.YtmjpjllbfgkfbaaDoorRows
import Derived.WalkKit
import Derived.Deep.DeepHandedRow
import Derived.Lib.LaidTab
import Derived.WideKeyArr2
import Derived.LaidLaws
import Derived.SizedLaws
/- A slice of structs of one-cell fields that came in, opened to its cells. -/
namespace Go.Proofs.YtmjpjllbfgkfbaaDoor
open Go.ChangeShapes Go.WideShapes Go.Deep Go.RowKit
section
variable {H : Type} {enc : TypeId × Value → H} {P : Program} {w : World} {base : Nat} {spare : Nat → Bool} {held : Bool}
theorem open_slice_fields {t e : TypeId} {fs : Array Field} {fuel : Nat} {cs : List Value} {x : DataW H × List MemPlace} (ht : P.underlying t = some (.slice e)) (he : P.underlying e = some (.struct fs))
    (hone : oneCellFields P fs = true) (hC : P.cellsOf e = fs.size) (h : DataW.trod enc P w base spare held fuel t cs = some x) :
    (cs = [.slice none 0 0] ∧ x = (.nil, [])) ∨
    ∃ (a : Addr) (len cap m : Nat) (D : Nat → DataW H) (Pl : Nat → List MemPlace), cs = [.slice (some a) len cap] ∧ base ≤ a.block ∧ len ≤ cap ∧ cap ≤ maxLen ∧ m = (if spare a.block then cap else len) ∧
      x = (.slice ((List.range len).map D) ((List.range (m - len)).map fun j => D (len + j)), MemPlace.row a (m * fs.size) ++ (List.range m).flatMap Pl) ∧
      ∀ i, i < m → ∃ (ys : List (DataW H × List MemPlace)) (n : Nat), D i = .agg (ys.map (·.1)) ∧ Pl i = ys.flatMap (·.2) ∧ ys.length = fs.size ∧
        ∀ (j : Nat) (f : Field), fs[j]? = some f → ∃ (v : Value) (y : DataW H × List MemPlace), w.cell? (a.add (i * fs.size + j)) = some v ∧ ys[j]? = some y ∧ DataW.trod enc P w base spare held n f.type [v] = some y := by
  rcases open_slice ht h with h0 | ⟨a, len, cap, m, n, D, Pl, hcs, hb, hl, hm, hmm, hx, hi⟩
  · exact .inl h0
  · refine .inr ⟨a, len, cap, m, D, Pl, hcs, hb, hl, hm, hmm, by rw [hC] at hx; exact hx, fun i him => ?_⟩
    obtain ⟨cs', hc, ht'⟩ := hi i him
    rw [hC] at hc
    obtain ⟨ys, n', hn', hy, hlen, hyl, hf⟩ := DataW.trod_struct he ht'
    obtain ⟨_, hcl, hat⟩ := World.cells?_some hc
    simp only [Prod.mk.injEq] at hy
    refine ⟨ys, n', hy.1, hy.2, hyl, fun j f hj => ?_⟩
    obtain ⟨ho, hk⟩ := hone_of hone j f hj
    have hjl : j < fs.size := (Array.getElem?_eq_some_iff.1 hj).1
    have hcell := hat j hjl
    have hv : cs'[j]? = some (cs'[j]'(by omega)) := List.getElem?_eq_getElem (by omega)
    have h1 := hf j f hj
    rw [ho, hk] at h1
    have hone' : (cs'.drop j).take 1 = [cs'[j]'(by omega)] := by
      rw [List.drop_eq_getElem_cons (by omega)]
      rfl
    rw [hone'] at h1
    have hys : ys[j]? = some (ys[j]'(by omega)) := List.getElem?_eq_getElem (by omega)
    refine ⟨_, _, ?_, hys, h1.trans hys⟩
    rw [← Go.Deep.add_add, hcell, hv]
end
end Go.Proofs.YtmjpjllbfgkfbaaDoor

/- Bytes in memory, over this program: a byte slice that is made; what a function answers that hands out new bytes. No condition. -/
namespace Go.Proofs.YtmjpjllbfgkfbaaDoor
open Go.RowKit
set_option linter.unusedVariables false
set_option linter.unusedSimpArgs false
set_option maxRecDepth 100000

theorem info_u8 : (Tryd.prog.info? 5).map (fun i => (i.zero, i.size, i.bytes)) = some (some (.int .u8 0), 1, 1) := by kernel_rfl
/-- What a function answers that puts bytes behind bytes: new memory that holds 'xs'. -/
def New (w : World) (xs : List Value) (n : Nat) (e : Ending) (w' : World) : Prop := ∃ v, e = .returned v ∧ w'.ownsRow w.heap.size 5 1 v n xs ∧ Below w.heap.size w w'
/-- Bytes in new memory, and the number of an error. -/
def NewE (w : World) (l : List Nat) (x : Nat) (e : Ending) (w' : World) : Prop :=
  ∃ v, e = .returned (.tuple #[v, .int .i64 (x : Int)]) ∧ w'.ownsRow w.heap.size 5 1 v l.length (bs l) ∧ Below w.heap.size w w'
end Go.Proofs.YtmjpjllbfgkfbaaDoor

/- A column's values in memory: structs of three cells, one behind the other; a list of them that came in, opened. -/
namespace Go.Proofs.YtmjpjllbfgkfbaaDoor
open Go.ChangeShapes Go.WideShapes Go.RowKit
set_option linter.unusedVariables false
set_option linter.unusedSimpArgs false
set_option maxRecDepth 100000

/-- A value's cells. -/
def vc (v : Int × Int × Tx) : List Value := [.int .i64 v.1, .int .i64 v.2.1, .string ⟨v.2.2.toArray⟩]
/-- Values as cells. -/
def vs (l : List (Int × Int × Tx)) : List Value := l.flatMap vc
theorem vs_nil : vs [] = [] := rfl
theorem vs_append (a b : List (Int × Int × Tx)) : vs (a ++ b) = vs a ++ vs b := by simp [vs]
theorem vs_one (v : Int × Int × Tx) : vs [v] = vc v := by simp [vs]
theorem vs_cons (v : Int × Int × Tx) (l : List (Int × Int × Tx)) : vs (v :: l) = vc v ++ vs l := by simp [vs]
theorem vs_length : ∀ l : List (Int × Int × Tx), (vs l).length = l.length * 3
  | [] => rfl
  | v :: l => by rw [vs_cons, List.length_append, vs_length l]; simp [vc]; omega
theorem vc_cell (v : Int × Int × Tx) : ∀ u ∈ vc v, u.oneCell' = true := by
  intro u hu
  simp [vc] at hu
  rcases hu with rfl | rfl | rfl <;> rfl
theorem vs_at : ∀ {l : List (Int × Int × Tx)} {k : Nat} {v : Int × Int × Tx}, l[k]? = some v → (vs l)[k * 3]? = some (.int .i64 v.1) ∧ (vs l)[k * 3 + 1]? = some (.int .i64 v.2.1) ∧ (vs l)[k * 3 + 2]? = some (.string ⟨v.2.2.toArray⟩)
  | [], k, v, h => by simp at h
  | x :: l, 0, v, h => by
    simp at h
    subst h
    rw [vs_cons]
    exact ⟨rfl, rfl, rfl⟩
  | x :: l, k + 1, v, h => by
    simp at h
    obtain ⟨h1, h2, h3⟩ := vs_at h
    have e : ∀ j, (vc x ++ vs l)[3 + j]? = (vs l)[j]? := fun j => by
      rw [List.getElem?_append_right (by simp [vc])]
      congr 1
      simp [vc]
    rw [vs_cons, show (k + 1) * 3 = 3 + k * 3 by omega, show 3 + k * 3 + 1 = 3 + (k * 3 + 1) by omega, show 3 + k * 3 + 2 = 3 + (k * 3 + 2) by omega, e, e, e]
    exact ⟨h1, h2, h3⟩
theorem Reads.val {w : World} {B n : Nat} {A : Option Addr} {l : List (Int × Int × Tx)} (h : Reads w B 3 A n (vs l)) {k : Nat} {v : Int × Int × Tx} (hv : l[k]? = some v) :
    ∃ b o, A = some ⟨b, o, none⟩ ∧ b < B ∧ w.cell? ⟨b, o + k * 3, none⟩ = some (.int .i64 v.1) ∧ w.cell? ⟨b, o + k * 3 + 1, none⟩ = some (.int .i64 v.2.1) ∧ w.cell? ⟨b, o + k * 3 + 2, none⟩ = some (.string ⟨v.2.2.toArray⟩) := by
  have hk : k < l.length := (List.getElem?_eq_some_iff.1 hv).1
  have hn : 0 < n := by have := h.1; rw [vs_length] at this; omega
  obtain ⟨⟨b, o, sp⟩, rfl, hb, hc⟩ := h.2 hn
  obtain ⟨h1, h2, h3⟩ := vs_at hv
  have c1 := hc _ _ h1
  have c2 := hc _ _ h2
  have c3 := hc _ _ h3
  have hl : 0 < (vs l).length := by rw [vs_length]; omega
  obtain rfl : sp = none := by simpa [Addr.add] using World.cell?_spot (hc 0 _ (List.getElem?_eq_getElem hl))
  rw [plain_add] at c1 c2 c3
  exact ⟨b, o, rfl, hb, c1, by rw [← c2, Nat.add_assoc], by rw [← c3, Nat.add_assoc]⟩
/-- What the walk is told of a list of values that came in. -/
def IsVals (w : World) (a : Option Addr) (len cap : Nat) (l : List (Int × Int × Tx)) : Prop :=
  l.length = len ∧ len ≤ cap ∧ cap ≤ maxLen ∧ Reads w w.heap.size 3 a len (vs l) ∧ ∀ v ∈ l, In64 v.1 ∧ In64 v.2.1
theorem vals_of {H : Type} {enc : TypeId × Value → H} {W : World} {a : Option Addr} {len cap : Nat} {d : DataW H} {p : List MemPlace} (h : DataW.Trod enc Tryd.prog W 0 (fun _ => true) true 23 (.slice a len cap) d p) :
    ∃ l, IsVals W a len cap l := by
  obtain ⟨fuel, hf⟩ := h
  rcases open_slice_fields Tryd.underlying23 Tryd.underlying37 (by kernel_rfl) (by kernel_rfl) hf with ⟨hcs, _⟩ | ⟨x, l, c, mm, D, Pl, hcs, _, hl, hcm, hmm, _, hi⟩
  · simp [Value.cells] at hcs
    obtain ⟨rfl, rfl, rfl⟩ := hcs
    exact ⟨[], rfl, Nat.le_refl _, Nat.zero_le _, Reads.none_, by simp⟩
  · simp [Value.cells] at hcs
    obtain ⟨rfl, rfl, rfl⟩ := hcs
    have hall : ∀ j, ∃ y : Int × Int × Tx, j < len → (In64 y.1 ∧ In64 y.2.1) ∧ ∀ i v, (vc y)[i]? = some v → W.cell? (x.add (j * 3 + i)) = some v := by
      intro j
      by_cases hj : j < len
      · obtain ⟨ys, nn, _, _, _, hfld⟩ := hi j (by rw [hmm]; simp; omega)
        obtain ⟨v0, y0, c0, _, t0⟩ := hfld 0 _ rfl
        obtain ⟨v1, y1, c1, _, t1⟩ := hfld 1 _ rfl
        obtain ⟨v2, y2, c2, _, t2⟩ := hfld 2 _ rfl
        obtain ⟨k, e0, _, wk⟩ := DataW.trod_int Tryd.underlying3 t0
        obtain ⟨n, e1, _, wn⟩ := DataW.trod_int Tryd.underlying2 t1
        obtain ⟨s, e2, _, _⟩ := DataW.trod_string Tryd.underlying9 t2
        injection e0 with e0
        injection e1 with e1
        injection e2 with e2
        subst e0 e1 e2
        have hk : In64 k := by have := i64_of wk; unfold In64; omega
        have hn : In64 n := by have := i64_of wn; unfold In64; omega
        refine ⟨⟨k, n, s.data.toList⟩, fun _ => ⟨⟨hk, hn⟩, fun i v hv => ?_⟩⟩
        unfold vc at hv
        rcases i with _ | _ | _ | i
        all_goals simp at hv
        all_goals subst hv
        · exact c0
        · exact c1
        · exact c2
      · exact ⟨(0, 0, []), fun h => absurd h hj⟩
    obtain ⟨f, hfn⟩ := Classical.axiomOfChoice hall
    have hget : ∀ j y, ((List.range len).map f)[j]? = some y → j < len ∧ y = f j := by
      intro j y hy
      have hj : j < len := by
        have := (List.getElem?_eq_some_iff.1 hy).1
        simpa using this
      rw [List.getElem?_map, List.getElem?_range hj] at hy
      injection hy with hy
      exact ⟨hj, hy.symm⟩
    refine ⟨(List.range len).map f, by simp, hl, hcm, ⟨by rw [vs_length]; simp, fun hn => ?_⟩, fun v hv => ?_⟩
    · refine ⟨x, rfl, ?_, fun j u hu => ?_⟩
      · have := World.block_lt_of_cell? W _ ((hfn 0 hn).2 0 _ rfl)
        rwa [block_of_add] at this
      · have hj : j < len * 3 := by
          have := (List.getElem?_eq_some_iff.1 hu).1
          rw [vs_length] at this
          simpa using this
        have hy : ((List.range len).map f)[j / 3]? = some (f (j / 3)) := by rw [List.getElem?_map, List.getElem?_range (by omega)]; rfl
        obtain ⟨h1, h2, h3⟩ := vs_at hy
        have hc := (hfn (j / 3) (by omega)).2
        obtain ⟨q, hq⟩ : ∃ q, j / 3 = q := ⟨_, rfl⟩
        rw [hq] at h1 h2 h3 hc
        have hr : j = q * 3 ∨ j = q * 3 + 1 ∨ j = q * 3 + 2 := by omega
        rcases hr with rfl | rfl | rfl
        · rw [h1] at hu; exact hc 0 _ (by rw [← hu]; rfl)
        · rw [h2] at hu; exact hc 1 _ (by rw [← hu]; rfl)
        · rw [h3] at hu; exact hc 2 _ (by rw [← hu]; rfl)
    · obtain ⟨j, hj, rfl⟩ := List.mem_map.1 hv
      exact (hfn j (List.mem_range.1 hj)).1
end Go.Proofs.YtmjpjllbfgkfbaaDoor

/- Predicates in memory: four cells, slices of values and of parts. No program; no condition. -/
namespace Go.Proofs.YtmjpjllbfgkfbaaDoor
open Go.RowKit
set_option linter.unusedVariables false
set_option linter.unusedSimpArgs false
set_option maxRecDepth 100000

/-- A slice that has something lies off the blocks 'P'. -/
def Far (P : Nat → Prop) (A : Option Addr) (n : Nat) : Prop := 0 < n → ∀ ad, A = some ad → ¬ P ad.block
/-- The cells are those of a predicate that is nested in less than 'f', all of it off the blocks 'P'. -/
def IsP : Nat → World → (Nat → Prop) → List Value → Pd → Prop
  | 0, _, _, _, _ => False
  | f + 1, w, P, cs, p => ∃ A c A' c', cs = [.int .i64 p.op, .int .i64 p.col, .slice A p.vals.length c, .slice A' p.parts.length c'] ∧ Reads w w.heap.size 3 A p.vals.length (vs p.vals) ∧ (Far P A p.vals.length ∧ p.vals.length ≤ c) ∧ Far P A' p.parts.length ∧
      ∃ us : List (List Value), us.length = p.parts.length ∧ Reads w w.heap.size 4 A' p.parts.length us.flatten ∧ ∀ (k : Nat) (q : Pd), p.parts[k]? = some q → ∃ u, us[k]? = some u ∧ IsP f w P u q
/-- A list of predicates. -/
def AllP (f : Nat) (w : World) (P : Nat → Prop) (us : List (List Value)) (l : List Pd) : Prop := us.length = l.length ∧ ∀ (k : Nat) (q : Pd), l[k]? = some q → ∃ u, us[k]? = some u ∧ IsP f w P u q
theorem IsP.four {f : Nat} {w : World} {P : Nat → Prop} {cs : List Value} {p : Pd} (h : IsP f w P cs p) : cs.length = 4 ∧ ∀ u ∈ cs, u.oneCell' = true := by
  cases f with
  | zero => exact h.elim
  | succ f =>
    obtain ⟨A, c, A', c', rfl, _⟩ := h
    refine ⟨rfl, fun u hu => ?_⟩
    simp only [List.mem_cons, List.not_mem_nil, or_false] at hu
    rcases hu with rfl | rfl | rfl | rfl <;> rfl
theorem reads_kept {w w' : World} {size n : Nat} {A : Option Addr} {xs : List Value} {P : Nat → Prop} (h : Reads w w.heap.size size A n xs) (hf : Far P A n) {row : Option Nat} (hg : w.grownBy w' row) (hP : ∀ q, row = some q → P q) : Reads w' w'.heap.size size A n xs := by
  refine ⟨h.1, fun hn => ?_⟩
  obtain ⟨ad, had, hlt, hc⟩ := h.2 hn
  refine ⟨ad, had, Nat.lt_of_lt_of_le hlt hg.size, fun j u hu => hg.cell (hc j u hu) ?_⟩
  rw [block_of_add]
  exact fun e => hf hn ad had (hP _ e.symm)
theorem IsP.next {w w' : World} {P : Nat → Prop} (hb : Below w.heap.size w w') : ∀ {f : Nat} {cs : List Value} {p : Pd}, IsP f w P cs p → IsP f w' P cs p
  | 0, _, _, h => h.elim
  | f + 1, _, _, h => by
    obtain ⟨A, c, A', c', e, h1, h2, h3, us, h4, h5, h6⟩ := h
    exact ⟨A, c, A', c', e, (h1.below hb).more hb.size, h2, h3, us, h4, (h5.below hb).more hb.size, fun k q hk => by obtain ⟨u, g1, g2⟩ := h6 k q hk; exact ⟨u, g1, IsP.next hb g2⟩⟩
theorem IsP.kept {w w' : World} {P : Nat → Prop} {row : Option Nat} (hg : w.grownBy w' row) (hP : ∀ q, row = some q → P q) : ∀ {f : Nat} {cs : List Value} {p : Pd}, IsP f w P cs p → IsP f w' P cs p
  | 0, _, _, h => h.elim
  | f + 1, _, _, h => by
    obtain ⟨A, c, A', c', e, h1, h2, h3, us, h4, h5, h6⟩ := h
    exact ⟨A, c, A', c', e, reads_kept h1 h2.1 hg hP, h2, h3, us, h4, reads_kept h5 h3 hg hP, fun k q hk => by obtain ⟨u, g1, g2⟩ := h6 k q hk; exact ⟨u, g1, IsP.kept hg hP g2⟩⟩
theorem IsP.off {w : World} {P P' : Nat → Prop} (hP : ∀ q, q < w.heap.size → P' q → P q) : ∀ {f : Nat} {cs : List Value} {p : Pd}, IsP f w P cs p → IsP f w P' cs p
  | 0, _, _, h => h.elim
  | f + 1, _, _, h => by
    obtain ⟨A, c, A', c', e, h1, h2, h3, us, h4, h5, h6⟩ := h
    refine ⟨A, c, A', c', e, h1, ⟨fun hn ad had hp => h2.1 hn ad had (hP _ ?_ hp), h2.2⟩, fun hn ad had hp => h3 hn ad had (hP _ ?_ hp), us, h4, h5, fun k q hk => by obtain ⟨u, g1, g2⟩ := h6 k q hk; exact ⟨u, g1, IsP.off hP g2⟩⟩
    · obtain ⟨ad', had', hlt, _⟩ := h1.2 hn
      rw [had] at had'; injection had' with e; subst e; exact hlt
    · obtain ⟨ad', had', hlt, _⟩ := h5.2 hn
      rw [had] at had'; injection had' with e; subst e; exact hlt
theorem IsP.more {w : World} {P : Nat → Prop} : ∀ {f : Nat} {cs : List Value} {p : Pd}, IsP f w P cs p → IsP (f + 1) w P cs p
  | 0, _, _, h => h.elim
  | f + 1, _, _, h => by
    obtain ⟨A, c, A', c', e, h1, h2, h3, us, h4, h5, h6⟩ := h
    exact ⟨A, c, A', c', e, h1, h2, h3, us, h4, h5, fun k q hk => by obtain ⟨u, g1, g2⟩ := h6 k q hk; exact ⟨u, g1, g2.more⟩⟩
theorem IsP.fuel {w : World} {P : Nat → Prop} {f : Nat} {cs : List Value} {p : Pd} (h : IsP f w P cs p) : ∀ j, IsP (f + j) w P cs p
  | 0 => h
  | j + 1 => (h.fuel j).more
/-- None. -/
theorem IsP.none_ (w : World) (P : Nat → Prop) (f : Nat) : IsP (f + 1) w P [.int .i64 0, .int .i64 0, .slice none 0 0, .slice none 0 0] Pd.none_ :=
  ⟨none, 0, none, 0, rfl, Reads.none_, ⟨(fun h => absurd h (by decide)), Nat.le_refl _⟩, (fun h => absurd h (by decide)), [], rfl, Reads.none_, fun k q h => by simp [Pd.none_, Pd.parts] at h⟩
theorem AllP.nil (f : Nat) (w : World) (P : Nat → Prop) : AllP f w P [] [] := ⟨rfl, fun k q h => by simp at h⟩
theorem AllP.next {f : Nat} {w w' : World} {P : Nat → Prop} {us : List (List Value)} {l : List Pd} (h : AllP f w P us l) (hb : Below w.heap.size w w') : AllP f w' P us l :=
  ⟨h.1, fun k q hk => by obtain ⟨u, g1, g2⟩ := h.2 k q hk; exact ⟨u, g1, g2.next hb⟩⟩
theorem AllP.kept {f : Nat} {w w' : World} {P : Nat → Prop} {us : List (List Value)} {l : List Pd} (h : AllP f w P us l) {row : Option Nat} (hg : w.grownBy w' row) (hP : ∀ q, row = some q → P q) : AllP f w' P us l :=
  ⟨h.1, fun k q hk => by obtain ⟨u, g1, g2⟩ := h.2 k q hk; exact ⟨u, g1, g2.kept hg hP⟩⟩
theorem AllP.off {f : Nat} {w : World} {P P' : Nat → Prop} {us : List (List Value)} {l : List Pd} (h : AllP f w P us l) (hP : ∀ q, q < w.heap.size → P' q → P q) : AllP f w P' us l :=
  ⟨h.1, fun k q hk => by obtain ⟨u, g1, g2⟩ := h.2 k q hk; exact ⟨u, g1, g2.off hP⟩⟩
theorem AllP.snoc {f : Nat} {w : World} {P : Nat → Prop} {us : List (List Value)} {l : List Pd} {u : List Value} {p : Pd} (h : AllP f w P us l) (hu : IsP f w P u p) : AllP f w P (us ++ [u]) (l ++ [p]) := by
  refine ⟨by simp [h.1], fun k q hk => ?_⟩
  by_cases hlt : k < l.length
  · rw [List.getElem?_append_left hlt] at hk
    obtain ⟨v, h1, h2⟩ := h.2 k q hk
    exact ⟨v, by rw [List.getElem?_append_left (by rw [h.1]; exact hlt)]; exact h1, h2⟩
  · have hk2 : k < (l ++ [p]).length := (List.getElem?_eq_some_iff.1 hk).1
    have e : k = l.length := by simp at hk2; omega
    subst e
    rw [List.getElem?_append_right (Nat.le_refl _), Nat.sub_self] at hk
    injection hk with hk
    subst hk
    exact ⟨u, by rw [← h.1, List.getElem?_append_right (Nat.le_refl _), Nat.sub_self]; rfl, hu⟩
theorem AllP.four {f : Nat} {w : World} {P : Nat → Prop} {us : List (List Value)} {l : List Pd} (h : AllP f w P us l) : ∀ u ∈ us, u.length = 4 ∧ ∀ v ∈ u, v.oneCell' = true := by
  intro u hu
  obtain ⟨k, hk, e⟩ := List.getElem_of_mem hu
  obtain ⟨v, h1, h2⟩ := h.2 k (l[k]'(by rw [← h.1]; exact hk)) (List.getElem?_eq_getElem _)
  rw [List.getElem?_eq_getElem hk, e] at h1
  injection h1 with h1
  subst h1
  exact h2.four
theorem flat4 : ∀ {us : List (List Value)} (h : ∀ u ∈ us, u.length = 4) {k j : Nat} {u : List Value}, us[k]? = some u → j < 4 → us.flatten[k * 4 + j]? = u[j]?
  | [], _, k, j, u, hk, _ => by simp at hk
  | x :: us, h, 0, j, u, hk, hj => by
    simp at hk
    subst hk
    have hx := h x (List.mem_cons_self ..)
    rw [List.flatten_cons, Nat.zero_mul, Nat.zero_add, List.getElem?_append_left (by omega)]
  | x :: us, h, k + 1, j, u, hk, hj => by
    simp at hk
    have hx := h x (List.mem_cons_self ..)
    rw [List.flatten_cons, List.getElem?_append_right (by omega), hx, show (k + 1) * 4 + j - 4 = k * 4 + j by omega]
    exact flat4 (fun u hu => h u (List.mem_cons_of_mem _ hu)) hk hj
theorem flat4_length : ∀ {us : List (List Value)} (h : ∀ u ∈ us, u.length = 4), us.flatten.length = us.length * 4
  | [], _ => rfl
  | x :: us, h => by
    rw [List.flatten_cons, List.length_append, h x (List.mem_cons_self ..), flat4_length fun u hu => h u (List.mem_cons_of_mem _ hu), List.length_cons]; omega
theorem flat4_one {us : List (List Value)} (h : ∀ u ∈ us, ∀ v ∈ u, v.oneCell' = true) : ∀ v ∈ us.flatten, v.oneCell' = true := by
  intro v hv
  obtain ⟨u, hu, hv⟩ := List.mem_flatten.1 hv
  exact h u hu v hv
/-- The four cells at a place of a slice of predicates. -/
theorem AllP.at_ {f : Nat} {w : World} {P : Nat → Prop} {B n : Nat} {A : Option Addr} {us : List (List Value)} {l : List Pd} (h : AllP f w P us l) (hr : Reads w B 4 A n us.flatten) (hn : l.length = n) {k : Nat} {q : Pd} (hk : l[k]? = some q) :
    ∃ b o c0 c1 c2 c3, A = some ⟨b, o, none⟩ ∧ b < B ∧ IsP f w P [c0, c1, c2, c3] q ∧ w.cell? ⟨b, o + k * 4, none⟩ = some c0 ∧ w.cell? ⟨b, o + k * 4 + 1, none⟩ = some c1 ∧ w.cell? ⟨b, o + k * 4 + 2, none⟩ = some c2 ∧ w.cell? ⟨b, o + k * 4 + 3, none⟩ = some c3 := by
  obtain ⟨u, hu, hp⟩ := h.2 k q hk
  have h4 := h.four
  have hul := hp.four.1
  have hkl : k < l.length := (List.getElem?_eq_some_iff.1 hk).1
  obtain ⟨⟨b, o, sp⟩, rfl, hb, hc⟩ := hr.2 (by omega)
  match u, hul with
  | [c0, c1, c2, c3], _ =>
    have f0 := flat4 (fun u hu => (h4 u hu).1) hu (j := 0) (by omega)
    have f1 := flat4 (fun u hu => (h4 u hu).1) hu (j := 1) (by omega)
    have f2 := flat4 (fun u hu => (h4 u hu).1) hu (j := 2) (by omega)
    have f3 := flat4 (fun u hu => (h4 u hu).1) hu (j := 3) (by omega)
    have d0 := hc _ _ f0
    have d1 := hc _ _ f1
    have d2 := hc _ _ f2
    have d3 := hc _ _ f3
    obtain rfl : sp = none := by
      have hl0 : 0 < us.flatten.length := by rw [flat4_length fun u hu => (h4 u hu).1, h.1]; omega
      simpa [Addr.add] using World.cell?_spot (hc 0 _ (List.getElem?_eq_getElem hl0))
    rw [plain_add] at d0 d1 d2 d3
    exact ⟨b, o, c0, c1, c2, c3, rfl, hb, hp, by simpa using d0, by rw [Nat.add_assoc]; exact d1, by rw [Nat.add_assoc]; exact d2, by rw [Nat.add_assoc]; exact d3⟩
theorem row_far {w : World} {B n size : Nat} {t : TypeId} {A : Option Addr} {c : Nat} {xs : List Value} (h : w.ownsRow B t size (.slice A n c) n xs) : Far (fun q => q < B) A n := by
  intro _ ad had
  rcases h.2 with ⟨e, _⟩ | ⟨q, cap, cur, e, hB, _⟩
  · injection e with e; rw [e] at had; cases had
  · injection e with e; rw [e] at had; injection had with had; subst had; show ¬ q < B; omega
/-- A predicate out of its values and its parts, each in a row of the call's own. -/
theorem IsP.mk_ {w : World} {B f n n' : Nat} {op col : Int} {vals : List Vl} {parts : List Pd} {A A' : Option Addr} {c c' : Nat} {t t' : TypeId} {us : List (List Value)} {own : Option Nat} (hn : vals.length = n) (hn' : parts.length = n')
    (h1 : w.ownsRow B t 3 (.slice A n c) n (vs vals)) (h2 : w.ownsRow B t' 4 (.slice A' n' c') n' us.flatten) (h3 : AllP f w (fun q => q < B ∨ some q = own) us parts) :
    IsP (f + 1) w (fun q => q < B) [.int .i64 op, .int .i64 col, .slice A n c, .slice A' n' c'] (.mk op col vals parts) := by
  subst hn hn'
  exact ⟨A, c, A', c', rfl, Reads.of_own h1, ⟨row_far h1, by obtain ⟨A2, c2, e, h, _⟩ := own_slice h1; injection e with _ _ e; rw [e]; exact h⟩, row_far h2, us, h3.1, Reads.of_own h2, (h3.off fun q _ hq => .inl hq).2⟩
/-- One more part, in a row of the call's own that grows. -/
theorem AllP.push {f : Nat} {w2 w6 : World} {B S : Nat} {us : List (List Value)} {l : List Pd} {cs : List Value} {p : Pd} {own own' : Option Nat} {o : Obj} (hA : AllP f w2 (fun q => q < B ∨ some q = own) us l) (hp : IsP f w2 (fun q => q < S) cs p) (hB : B ≤ S) (hown : ∀ q, own = some q → q < S)
    (hg : (w2.alloc o).grownBy w6 own) (hat : own' = own ∨ own' = some (w2.alloc o).heap.size) : AllP f w6 (fun q => q < B ∨ some q = own') (us ++ [cs]) (l ++ [p]) := by
  have hba : Below w2.heap.size w2 (w2.alloc o) := (Below.refl _ _).alloc (Nat.le_refl _) o
  have hnew : ∀ q, q < w2.heap.size → some q = own' → some q = own := fun q hq e => by
    rcases hat with h | h
    · rw [← h]; exact e
    · rw [h] at e; injection e with e; simp at e; omega
  have h1 : AllP f w2 (fun q => q < B ∨ some q = own ∨ some q = own') us l := hA.off fun q hq h => by
    rcases h with h | h | h
    · exact .inl h
    · exact .inr h
    · exact .inr (hnew q hq h)
  have h2 : IsP f w2 (fun q => q < B ∨ some q = own ∨ some q = own') cs p := hp.off fun q hq h => by
    rcases h with h | h | h
    · show q < S; omega
    · exact hown q h.symm
    · exact hown q (hnew q hq h).symm
  have h3 := ((h1.next hba).snoc (h2.next hba)).kept hg (fun q hq => .inr (.inl hq.symm))
  exact h3.off fun q _ h => by
    rcases h with h | h
    · exact .inl h
    · exact .inr (.inr h)
end Go.Proofs.YtmjpjllbfgkfbaaDoor

/- A predicate's four cells; so many values and parts as are looked at. No program; no condition. -/
namespace Go.Proofs.YtmjpjllbfgkfbaaDoor
open Go.RowKit
set_option linter.unusedVariables false
set_option linter.unusedSimpArgs false
set_option maxRecDepth 100000

theorem blk4' {w : World} {g : Nat} {t : TypeId} {a b c d : Value} (h : Blk w g t #[a, b, c, d]) : w.cell? ⟨g, 0, none⟩ = some a ∧ w.cell? ⟨g, 1, none⟩ = some b ∧ w.cell? ⟨g, 2, none⟩ = some c ∧ w.cell? ⟨g, 3, none⟩ = some d := ⟨h.cell 0, h.cell 1, h.cell 2, h.cell 3⟩
/-- So many values and parts as are looked at. -/
def Small : Nat → Pd → Prop
  | 0, _ => True
  | f + 1, p => p.vals.length ≤ 65536 ∧ p.parts.length ≤ 65536 ∧ ∀ q ∈ p.parts, Small f q
end Go.Proofs.YtmjpjllbfgkfbaaDoor

/- A predicate in memory as a tree with the place of each node; the forest that is still to be gone through behind so many nodes. No program; no condition. -/
namespace Go.Proofs.YtmjpjllbfgkfbaaDoor
open Go.RowKit
set_option linter.unusedVariables false
set_option linter.unusedSimpArgs false
set_option maxRecDepth 100000

/-- A predicate, where it lies, and its parts likewise. -/
inductive Tr where
  | mk (b o : Nat) (p : Pd) (kids : List Tr) : Tr
def Tr.b : Tr → Nat | .mk b _ _ _ => b
def Tr.o : Tr → Nat | .mk _ o _ _ => o
def Tr.p : Tr → Pd | .mk _ _ p _ => p
def Tr.kids : Tr → List Tr | .mk _ _ _ l => l
/-- Its address. -/
def Tr.ad (t : Tr) : Value := .pointer (some ⟨t.b, t.o, none⟩)
mutual
def cntT : Tr → Nat | .mk _ _ _ l => 1 + cntL l
def cntL : List Tr → Nat
  | [] => 0
  | t :: l => cntT t + cntL l
end
mutual
/-- How many predicates it is. -/
def ndP : Pd → Nat | .mk _ _ _ l => 1 + ndL l
def ndL : List Pd → Nat
  | [] => 0
  | p :: l => ndP p + ndL l
end
theorem cntT_eq (t : Tr) : cntT t = 1 + cntL t.kids := by cases t; simp [cntT, Tr.kids]
theorem ndP_eq (p : Pd) : ndP p = 1 + ndL p.parts := by cases p; simp [ndP, Pd.parts]
theorem cntL_append : ∀ a b : List Tr, cntL (a ++ b) = cntL a + cntL b
  | [], b => by simp [cntL]
  | t :: a, b => by simp only [List.cons_append, cntL]; rw [cntL_append a b]; omega
theorem cntT_pos (t : Tr) : 0 < cntT t := by rw [cntT_eq]; omega
theorem cntL_len : ∀ l : List Tr, l.length ≤ cntL l
  | [] => by simp [cntL]
  | t :: l => by have := cntL_len l; have := cntT_pos t; simp only [List.length_cons, cntL]; omega
/-- What is to be gone through behind the first one. -/
def woodS : List Tr → List Tr
  | [] => []
  | t :: l => t.kids ++ l
def wood (r : Tr) : Nat → List Tr
  | 0 => [r]
  | k + 1 => woodS (wood r k)
theorem cnt_woodS {t : Tr} {l : List Tr} : cntL (woodS (t :: l)) + 1 = cntL (t :: l) := by simp only [woodS, cntL]; rw [cntL_append, cntT_eq]; omega
theorem cnt_wood (r : Tr) : ∀ k, k ≤ cntT r → cntL (wood r k) + k = cntT r
  | 0, _ => by simp [wood, cntL]
  | k + 1, h => by
    have ih := cnt_wood r k (by omega)
    rw [wood]
    cases hf : wood r k with
    | nil => rw [hf] at ih; simp [cntL] at ih; omega
    | cons t l => rw [hf] at ih; have := cnt_woodS (t := t) (l := l); omega
theorem wood_cons {r : Tr} {k : Nat} (h : k < cntT r) : ∃ t l, wood r k = t :: l ∧ wood r (k + 1) = t.kids ++ l := by
  have ih := cnt_wood r k (by omega)
  cases hf : wood r k with
  | nil => rw [hf] at ih; simp [cntL] at ih; omega
  | cons t l => exact ⟨t, l, rfl, by rw [wood, hf]; rfl⟩
theorem wood_end (r : Tr) : wood r (cntT r) = [] := by
  have ih := cnt_wood r (cntT r) (Nat.le_refl _)
  have := cntL_len (wood r (cntT r))
  exact List.eq_nil_of_length_eq_zero (by omega)
theorem wood_len (r : Tr) {k : Nat} (h : k ≤ cntT r) : (wood r k).length ≤ cntT r := by
  have ih := cnt_wood r k h
  have := cntL_len (wood r k)
  omega
/-- The node that is come to behind so many. -/
def nth (r : Tr) (k : Nat) : Tr := (wood r k).headD r
theorem wood_nth {r : Tr} {k : Nat} (h : k < cntT r) : ∃ l, wood r k = nth r k :: l ∧ wood r (k + 1) = (nth r k).kids ++ l := by
  obtain ⟨t, l, h1, h2⟩ := wood_cons h
  refine ⟨l, ?_, ?_⟩ <;> simp [nth, h1, h2]
mutual
/-- Of each node of a tree. -/
def allT (Q : Tr → Prop) : Tr → Prop | .mk b o p l => Q (.mk b o p l) ∧ allL Q l
def allL (Q : Tr → Prop) : List Tr → Prop
  | [] => True
  | t :: l => allT Q t ∧ allL Q l
end
theorem allT_eq (Q : Tr → Prop) (t : Tr) : allT Q t ↔ Q t ∧ allL Q t.kids := by cases t; simp [allT, Tr.kids]
theorem allL_append (Q : Tr → Prop) : ∀ a b : List Tr, allL Q (a ++ b) ↔ allL Q a ∧ allL Q b
  | [], b => by simp [allL]
  | t :: a, b => by simp only [List.cons_append, allL]; rw [allL_append Q a b]; exact and_assoc.symm
theorem allL_wood {Q : Tr → Prop} {r : Tr} (h : allT Q r) : ∀ k, allL Q (wood r k)
  | 0 => by simp [wood, allL, h]
  | k + 1 => by
    have ih := allL_wood h k
    rw [wood]
    cases hf : wood r k with
    | nil => simp [woodS, allL]
    | cons t l =>
      rw [hf] at ih
      simp only [allL] at ih
      rw [woodS, allL_append]
      exact ⟨((allT_eq Q t).1 ih.1).2, ih.2⟩
theorem nth_all {Q : Tr → Prop} {r : Tr} (h : allT Q r) {k : Nat} (hk : k < cntT r) : Q (nth r k) := by
  obtain ⟨l, h1, _⟩ := wood_nth hk
  have := allL_wood h k
  rw [h1] at this
  simp only [allL] at this
  exact ((allT_eq Q _).1 this.1).1
theorem allL_mono {Q Q' : Tr → Prop} (hm : ∀ t, Q t → Q' t) : ∀ n, (∀ t, cntT t ≤ n → allT Q t → allT Q' t) ∧ ∀ l, cntL l ≤ n → allL Q l → allL Q' l
  | 0 => ⟨fun t h => by have := cntT_pos t; omega, fun l h _ => by
      have := cntL_len l
      obtain rfl := List.eq_nil_of_length_eq_zero (show l.length = 0 by omega)
      simp [allL]⟩
  | n + 1 => by
    obtain ⟨ih1, ih2⟩ := allL_mono hm n
    have h1 : ∀ t, cntT t ≤ n + 1 → allT Q t → allT Q' t := fun t ht h => by
      rw [allT_eq] at h ⊢
      exact ⟨hm t h.1, ih2 _ (by rw [cntT_eq] at ht; omega) h.2⟩
    refine ⟨h1, fun l => ?_⟩
    induction l with
    | nil => intro _ _; simp [allL]
    | cons t l ih =>
      intro hl h
      simp only [cntL] at hl
      simp only [allL] at h ⊢
      exact ⟨h1 t (by omega) h.1, ih (by omega) h.2⟩
theorem allT_mono {Q Q' : Tr → Prop} (hm : ∀ t, Q t → Q' t) {t : Tr} (h : allT Q t) : allT Q' t := (allL_mono hm _).1 t (Nat.le_refl _) h

/-- A node in memory: its four cells, its values, its parts' places. -/
def NodeAt (w : World) (B : Nat) (t : Tr) : Prop :=
  ∃ A c A' c', t.b < B ∧ w.cell? ⟨t.b, t.o, none⟩ = some (.int .i64 t.p.op) ∧ w.cell? ⟨t.b, t.o + 1, none⟩ = some (.int .i64 t.p.col) ∧ w.cell? ⟨t.b, t.o + 2, none⟩ = some (.slice A t.p.vals.length c) ∧ w.cell? ⟨t.b, t.o + 3, none⟩ = some (.slice A' t.p.parts.length c') ∧
    (Reads w B 3 A t.p.vals.length (vs t.p.vals) ∧ t.p.vals.length ≤ c) ∧ t.kids.map (·.p) = t.p.parts ∧ t.p.vals.length ≤ 65536 ∧ t.p.parts.length ≤ 65536 ∧ ∀ i s, t.kids[i]? = some s → ∃ b o, A' = some ⟨b, o, none⟩ ∧ s.b = b ∧ s.o = o + i * 4 ∧ b < B
theorem NodeAt.below {w w' : World} {B : Nat} {t : Tr} (h : NodeAt w B t) (hb : Below B w w') : NodeAt w' B t := by
  obtain ⟨A, c, A', c', h1, h2, h3, h4, h5, h6, h7⟩ := h
  exact ⟨A, c, A', c', h1, (hb.cell h1).trans h2, (hb.cell h1).trans h3, (hb.cell h1).trans h4, (hb.cell h1).trans h5, ⟨h6.1.below hb, h6.2⟩, h7⟩
/-- What stands where blocks below 'B' stand. -/
theorem NodeAt.kept {w w' : World} {B : Nat} {t : Tr} (h : NodeAt w B t) (hk : ∀ k, k < B → w'.heap[k]? = w.heap[k]?) : NodeAt w' B t := by
  obtain ⟨A, c, A', c', h1, h2, h3, h4, h5, h6, h7⟩ := h
  have hc : ∀ p : Addr, p.block < B → w'.cell? p = w.cell? p := fun p hp => World.cell?_of_block (hk _ hp)
  exact ⟨A, c, A', c', h1, (hc _ h1).trans h2, (hc _ h1).trans h3, (hc _ h1).trans h4, (hc _ h1).trans h5, ⟨h6.1.keep hc, h6.2⟩, h7⟩
theorem NodeAt.more {w : World} {B B' : Nat} {t : Tr} (h : NodeAt w B t) (hB : B ≤ B') : NodeAt w B' t := by
  obtain ⟨A, c, A', c', h1, h2, h3, h4, h5, h6, h7, h8, h9, h10⟩ := h
  exact ⟨A, c, A', c', by omega, h2, h3, h4, h5, ⟨h6.1.more hB, h6.2⟩, h7, h8, h9, fun i s hs => by obtain ⟨b, o, g1, g2, g3, g4⟩ := h10 i s hs; exact ⟨b, o, g1, g2, g3, by omega⟩⟩
theorem NodeAt.kept0 {w w' : World} {B : Nat} {t : Tr} (h : NodeAt w B t) (hk : ∀ k : Nat, w'.heap[k]? = w.heap[k]?) : NodeAt w' B t := h.kept fun k _ => hk k
theorem each_one {α β : Type} {R : Nat → α → β → Prop} : ∀ (l : List α) (k : Nat), (∀ i q, l[i]? = some q → ∃ t, R (k + i) q t) → ∃ ts : List β, ts.length = l.length ∧ ∀ i q t, l[i]? = some q → ts[i]? = some t → R (k + i) q t
  | [], k, _ => ⟨[], rfl, fun i q t h => by simp at h⟩
  | x :: l, k, h => by
    obtain ⟨t, ht⟩ := h 0 x rfl
    obtain ⟨ts, h1, h2⟩ := each_one l (k + 1) (fun i q hq => by
      obtain ⟨t, ht⟩ := h (i + 1) q (by simpa using hq)
      exact ⟨t, by rw [show k + 1 + i = k + (i + 1) by omega]; exact ht⟩)
    refine ⟨t :: ts, by simp [h1], fun i q u hq hu => ?_⟩
    cases i with
    | zero => simp at hq hu; subst hq hu; exact ht
    | succ i => have := h2 i q u (by simpa using hq) (by simpa using hu); rw [show k + 1 + i = k + (i + 1) by omega] at this; exact this
theorem allL_of {Q : Tr → Prop} : ∀ {l : List Tr}, (∀ t ∈ l, allT Q t) → allL Q l
  | [], _ => by simp [allL]
  | t :: l, h => by simp only [allL]; exact ⟨h t (List.mem_cons_self ..), allL_of fun u hu => h u (List.mem_cons_of_mem _ hu)⟩
/-- A predicate in memory is such a tree. -/
theorem tree_of {P : Nat → Prop} {w : World} : ∀ {f : Nat} {c0 c1 c2 c3 : Value} {p : Pd} {b o : Nat}, IsP f w P [c0, c1, c2, c3] p → Small f p → b < w.heap.size → w.cell? ⟨b, o, none⟩ = some c0 → w.cell? ⟨b, o + 1, none⟩ = some c1 → w.cell? ⟨b, o + 2, none⟩ = some c2 → w.cell? ⟨b, o + 3, none⟩ = some c3 →
    ∃ t : Tr, t.b = b ∧ t.o = o ∧ t.p = p ∧ allT (NodeAt w w.heap.size) t
  | 0, _, _, _, _, _, _, _, h, _, _, _, _, _, _ => h.elim
  | f + 1, c0, c1, c2, c3, p, b, o, h, hs, hb, x0, x1, x2, x3 => by
    obtain ⟨A, c, A', c', e, h1, h2, h3, us, h4, h5, h6⟩ := h
    injection e with e0 e; injection e with e1 e; injection e with e2 e; injection e with e3 _
    subst e0 e1 e2 e3
    obtain ⟨s1, s2, s3⟩ := hs
    have hall : AllP f w P us p.parts := ⟨h4, h6⟩
    obtain ⟨ts, t1, t2⟩ := each_one (R := fun i q (t : Tr) => t.p = q ∧ allT (NodeAt w w.heap.size) t ∧ ∃ b o, A' = some ⟨b, o, none⟩ ∧ t.b = b ∧ t.o = o + i * 4 ∧ b < w.heap.size) p.parts 0 (fun i q hq => by
      obtain ⟨b', o', d0, d1, d2, d3, hA, hb', hq', y0, y1, y2, y3⟩ := hall.at_ h5 rfl hq
      obtain ⟨t, r1, r2, r3, r4⟩ := tree_of hq' (s3 q (List.mem_of_getElem? hq)) hb' y0 y1 y2 y3
      exact ⟨t, r3, r4, b', o', hA, r1, by rw [r2]; omega, hb'⟩)
    refine ⟨.mk b o p ts, rfl, rfl, rfl, ?_⟩
    rw [allT_eq]
    refine ⟨⟨A, c, A', c', hb, x0, x1, x2, x3, ⟨h1, h2.2⟩, ?_, s1, s2, fun i s hi => ?_⟩, allL_of fun t ht => ?_⟩
    · show ts.map (·.p) = p.parts
      apply List.ext_getElem?
      intro i
      rw [List.getElem?_map]
      by_cases hi : i < p.parts.length
      · obtain ⟨q, hq⟩ : ∃ q, p.parts[i]? = some q := ⟨_, List.getElem?_eq_getElem hi⟩
        obtain ⟨t, ht⟩ : ∃ t, ts[i]? = some t := ⟨_, List.getElem?_eq_getElem (by omega)⟩
        rw [hq, ht]
        exact congrArg some (t2 i q t hq ht).1
      · rw [List.getElem?_eq_none (by omega), List.getElem?_eq_none (by omega)]; rfl
    · change ts[i]? = some s at hi
      obtain ⟨q, hq⟩ : ∃ q, p.parts[i]? = some q := ⟨_, List.getElem?_eq_getElem (by have := (List.getElem?_eq_some_iff.1 hi).1; omega)⟩
      have := (t2 i q s hq hi).2.2
      rw [Nat.zero_add] at this
      exact this
    · change t ∈ ts at ht
      obtain ⟨i, hi, e⟩ := List.getElem_of_mem ht
      have hi' : ts[i]? = some t := by rw [List.getElem?_eq_getElem hi, e]
      obtain ⟨q, hq⟩ : ∃ q, p.parts[i]? = some q := ⟨_, List.getElem?_eq_getElem (by omega)⟩
      exact (t2 i q t hq hi').2.1
/-- As many nodes as predicates. -/
theorem cnt_nd {w : World} {B : Nat} : ∀ n, (∀ t, cntT t ≤ n → allT (NodeAt w B) t → cntT t = ndP t.p) ∧ ∀ l, cntL l ≤ n → allL (NodeAt w B) l → cntL l = ndL (l.map (·.p))
  | 0 => ⟨fun t h => by have := cntT_pos t; omega, fun l h _ => by
      have := cntL_len l
      obtain rfl := List.eq_nil_of_length_eq_zero (show l.length = 0 by omega)
      simp [cntL, ndL]⟩
  | n + 1 => by
    obtain ⟨ih1, ih2⟩ := cnt_nd n
    have h1 : ∀ t, cntT t ≤ n + 1 → allT (NodeAt w B) t → cntT t = ndP t.p := fun t ht h => by
      rw [allT_eq] at h
      obtain ⟨⟨A, c, A', c', _, _, _, _, _, _, hk, _⟩, h2⟩ := h
      rw [cntT_eq, ndP_eq, ← hk, ih2 _ (by rw [cntT_eq] at ht; omega) h2]
    refine ⟨h1, fun l => ?_⟩
    induction l with
    | nil => intro _ _; simp [cntL, ndL]
    | cons t l ih =>
      intro hl h
      simp only [cntL] at hl
      simp only [allL] at h
      simp only [cntL, List.map_cons, ndL]
      rw [h1 t (by omega) h.1, ih (by omega) h.2]
theorem cntT_nd {w : World} {B : Nat} {t : Tr} (h : allT (NodeAt w B) t) : cntT t = ndP t.p := (cnt_nd _).1 t (Nat.le_refl _) h
end Go.Proofs.YtmjpjllbfgkfbaaDoor

/- What a function answers that hands out new bytes, opened; what reads goes on reading. -/
namespace Go.Proofs.YtmjpjllbfgkfbaaDoor
open Go.RowKit
set_option linter.unusedVariables false
set_option linter.unusedSimpArgs false
set_option maxRecDepth 100000

theorem New.opened {w w' : World} {xs : List Value} {n : Nat} {e : Ending} (h : New w xs n e w') : ∃ A c, e = .returned (.slice A n c) ∧ n ≤ c ∧ Reads w' w'.heap.size 1 A n xs ∧ Below w.heap.size w w' := by
  obtain ⟨v, rfl, hown, hb⟩ := h
  obtain ⟨A, c, rfl, hc, _, hr⟩ := own_slice hown
  exact ⟨A, c, rfl, hc, hr, hb⟩
theorem Reads.next {w w' : World} {size n : Nat} {A : Option Addr} {xs : List Value} (h : Reads w w.heap.size size A n xs) (hb : Below w.heap.size w w') : Reads w' w'.heap.size size A n xs :=
  (h.below hb).more hb.size
end Go.Proofs.YtmjpjllbfgkfbaaDoor

/- What a call answers wherever what stood below stands: for a drawn region with calls that make memory, in one walk. No condition. -/
namespace Go.Proofs.YtmjpjllbfgkfbaaDoor
open Go.RowKit
set_option linter.unusedVariables false
set_option linter.unusedSimpArgs false
set_option maxRecDepth 100000

/-- What a call answers wherever what stood below stands, and that it leaves that. -/
def Yields (B : Nat) (w : World) (f : FuncId) (args : Array Value) (v : Value) : Prop :=
  ∀ W, Below B w W → Calls Tryd.prog f args W fun e w' => e = .returned v ∧ Below B w w'
theorem below_drew {B : Nat} {w W : World} (h : Below B w W) : Below B w W.drew := ⟨h.os, h.tape, h.output, h.size, h.block⟩
theorem Yields.quiet {w : World} {f : FuncId} {args : Array Value} {v : Value} (h : Yields w.heap.size w f args v) (d : Nat) (os : Array Obj) :
    Calls Tryd.prog f args (Go.Sort.grow (redrawn w d) os) fun e w'' => e = .returned v ∧ ∃ p : Regrown, w'' = Go.Sort.grow (redrawn w p.d) p.os :=
  (h _ (below_regrown w d os)).mono fun _ _ ⟨he, hb⟩ => ⟨he, regrown_of_below hb⟩
end Go.Proofs.YtmjpjllbfgkfbaaDoor

/- The table of shapes; a predicate's four cells; contracts of pred's isPlace and span.has. -/
namespace Go.Proofs.YtmjpjllbfgkfbaaDoor
open Go.RowKit
set_option linter.unusedVariables false
set_option linter.unusedSimpArgs false
set_option maxRecDepth 100000

/-- The table of shapes: whether a column is named; how many values; how many parts. -/
def shB : Nat → Bool := fun k => decide (1 ≤ k ∧ k ≤ 9)
def shV : Nat → Int × Int
  | 1 => (1, 1) | 2 => (1, 1) | 3 => (1, 1) | 4 => (1, 1) | 5 => (1, 1) | 6 => (1, 1) | 7 => (0, 256) | 8 => (2, 2) | _ => (0, 0)
def shN : Nat → Int × Int
  | 10 => (1, 256) | 11 => (1, 256) | 12 => (1, 1) | _ => (0, 0)
def Shp (w : World) : Prop := ∀ k, k < 13 → w.cell? ⟨0, k * 5, none⟩ = some (.bool (shB k)) ∧ w.cell? ⟨0, k * 5 + 1, none⟩ = some (.int .i64 (shV k).1) ∧ w.cell? ⟨0, k * 5 + 2, none⟩ = some (.int .i64 (shV k).2) ∧
  w.cell? ⟨0, k * 5 + 3, none⟩ = some (.int .i64 (shN k).1) ∧ w.cell? ⟨0, k * 5 + 4, none⟩ = some (.int .i64 (shN k).2)
theorem Shp.lt {w : World} (h : Shp w) : 0 < w.heap.size := World.block_lt_of_cell? w ⟨0, 0 * 5, none⟩ (h 0 (by omega)).1
theorem Shp.next {w w' : World} (h : Shp w) (hb : Below w.heap.size w w') : Shp w' := fun k hk => by
  obtain ⟨h1, h2, h3, h4, h5⟩ := h k hk
  have hl := h.lt
  exact ⟨(hb.cell hl).trans h1, (hb.cell hl).trans h2, (hb.cell hl).trans h3, (hb.cell hl).trans h4, (hb.cell hl).trans h5⟩
theorem isPlace_any (i n : Int) (w : World) : Calls Tryd.prog 34 #[.int .i64 i, .int .i64 n] w fun e w' => e = .returned (.bool (decide (0 ≤ i ∧ i < n))) ∧ w = w' := by
  by_cases h : 0 ≤ i
  · have h1 : decide (0 ≤ i ∧ i < n) = decide (i < n) := by simp [h]
    rw [h1]
    have d1 : decide (0 ≤ i) = true := by simp [h]
    clear h h1
    go_enter Tryd.func34, Tryd.ntmps34
    go_wp2_with fail
    go_ret
    exact ⟨rfl, rfl⟩
  · have h1 : decide (0 ≤ i ∧ i < n) = false := by simp [h]
    rw [h1]
    have d1 : decide (0 ≤ i) = false := by simp [h]
    clear h h1
    go_enter Tryd.func34, Tryd.ntmps34
    go_wp2_with fail
    go_ret
    exact ⟨rfl, rfl⟩
theorem has_any (lo hi n : Int) (w : World) : Calls Tryd.prog 48 #[.agg #[.int .i64 lo, .int .i64 hi], .int .i64 n] w fun e w' => e = .returned (.bool (decide (lo ≤ n ∧ n ≤ hi))) ∧ Below w.heap.size w w' := by
  by_cases h : lo ≤ n
  · have h1 : decide (lo ≤ n ∧ n ≤ hi) = decide (n ≤ hi) := by simp [h]
    rw [h1]
    have d1 : decide (lo ≤ n) = true := by simp [h]
    clear h h1
    go_enter Tryd.func48, Tryd.ntmps48
    go_wp2_with fail
    go_ret
    exact ⟨rfl, (Below.refl _ _).alloc (Nat.le_refl _) _⟩
  · have h1 : decide (lo ≤ n ∧ n ≤ hi) = false := by simp [h]
    rw [h1]
    have d1 : decide (lo ≤ n) = false := by simp [h]
    clear h h1
    go_enter Tryd.func48, Tryd.ntmps48
    go_wp2_with fail
    go_ret
    exact ⟨rfl, (Below.refl _ _).alloc (Nat.le_refl _) _⟩
/-- The four cells of a predicate. -/
structure Nd (w : World) (b o : Nat) (op col : Int) (A : Option Addr) (n c : Nat) (A' : Option Addr) (n' c' : Nat) : Prop where
  lt : b < w.heap.size
  c0 : w.cell? ⟨b, o, none⟩ = some (.int .i64 op)
  c1 : w.cell? ⟨b, o + 1, none⟩ = some (.int .i64 col)
  c2 : w.cell? ⟨b, o + 2, none⟩ = some (.slice A n c)
  c3 : w.cell? ⟨b, o + 3, none⟩ = some (.slice A' n' c')
theorem Nd.next {w w' : World} {b o n c n' c' : Nat} {op col : Int} {A A' : Option Addr} (h : Nd w b o op col A n c A' n' c') (hb : Below w.heap.size w w') : Nd w' b o op col A n c A' n' c' :=
  ⟨Nat.lt_of_lt_of_le h.lt hb.size, (hb.cell h.lt).trans h.c0, (hb.cell h.lt).trans h.c1, (hb.cell h.lt).trans h.c2, (hb.cell h.lt).trans h.c3⟩
end Go.Proofs.YtmjpjllbfgkfbaaDoor

/- The listed variable pred.shapes: from the row's condition to its cells; a world that meets it. -/
namespace Go.Proofs.YtmjpjllbfgkfbaaDoor
open Go.ChangeShapes Go.WideShapes Go.ChangeAt Go.RowKit Go.WideMaps
set_option linter.unusedVariables false
set_option linter.unusedSimpArgs false
set_option maxRecDepth 100000

theorem gShp : Tryd.prog.globalNamed "estreat/pred.shapes" = some 0 := by kernel_rfl
theorem gShpType : (Tryd.prog.globals[0]?).map (·.type) = some 82 := by kernel_rfl
theorem cellsShp : Tryd.prog.cellsOf 82 = 65 := by kernel_rfl
theorem cellsShape : Tryd.prog.cellsOf 81 = 5 := by kernel_rfl
theorem cellsSpan : Tryd.prog.cellsOf 79 = 2 := by kernel_rfl
theorem cellsBool : Tryd.prog.cellsOf 4 = 1 := by kernel_rfl
theorem cellsInt : Tryd.prog.cellsOf 3 = 1 := by kernel_rfl
section
variable {H : Type} {enc : TypeId × Value → H} {W : World} {base : Nat} {sp : Nat → Bool} {held : Bool}
theorem take_at {cs : List Value} {k : Nat} {v : Value} (h : (cs.drop k).take 1 = [v]) : cs[k]? = some v := by
  have := congrArg (·[0]?) h
  simpa [List.getElem?_take, List.getElem?_drop] using this
theorem span_cells {fuel : Nat} {cs : List Value} {a b : Int} {p : List MemPlace} (h : DataW.trod enc Tryd.prog W base sp held fuel 79 cs = some (.agg [.lit (.int .i64 a), .lit (.int .i64 b)], p)) : cs = [.int .i64 a, .int .i64 b] := by
  obtain ⟨xs, n, rfl, hx, hl, hxl, hall⟩ := DataW.trod_struct Tryd.underlying79 h
  rw [cellsSpan] at hl
  have hx3 : xs.map (·.1) = [.lit (.int .i64 a), .lit (.int .i64 b)] := by
    have := congrArg Prod.fst hx
    simpa using this.symm
  obtain ⟨x0, x1, rfl⟩ : ∃ x0 x1, xs = [x0, x1] := by
    match xs, hx3 with
    | [x0, x1], _ => exact ⟨x0, x1, rfl⟩
  simp only [List.map_cons, List.map_nil, List.cons.injEq, and_true] at hx3
  obtain ⟨e0, e1⟩ := hx3
  have f0 := hall 0 _ rfl
  have f1 := hall 1 _ rfl
  change DataW.trod _ _ _ _ _ _ _ 3 ((cs.drop 0).take (Tryd.prog.cellsOf 3)) = some x0 at f0
  change DataW.trod _ _ _ _ _ _ _ 3 ((cs.drop 1).take (Tryd.prog.cellsOf 3)) = some x1 at f1
  rw [cellsInt] at f0 f1
  obtain ⟨z0, hz0, hx0, _⟩ := DataW.trod_int Tryd.underlying3 f0
  obtain ⟨z1, hz1, hx1, _⟩ := DataW.trod_int Tryd.underlying3 f1
  rw [hx0] at e0; cases e0
  rw [hx1] at e1; cases e1
  have g0 := take_at hz0
  have g1 := take_at hz1
  match cs, hl, g0, g1 with
  | [c0, c1], _, g0, g1 => simp at g0 g1; rw [g0, g1]
theorem shape_cells {fuel : Nat} {cs : List Value} {x : Bool} {a b c d : Int} {p : List MemPlace}
    (h : DataW.trod enc Tryd.prog W base sp held fuel 81 cs = some (.agg [.lit (.bool x), .agg [.lit (.int .i64 a), .lit (.int .i64 b)], .agg [.lit (.int .i64 c), .lit (.int .i64 d)]], p)) : cs = [.bool x, .int .i64 a, .int .i64 b, .int .i64 c, .int .i64 d] := by
  obtain ⟨xs, n, rfl, hx, hl, hxl, hall⟩ := DataW.trod_struct Tryd.underlying81 h
  rw [cellsShape] at hl
  have hx3 : xs.map (·.1) = [.lit (.bool x), .agg [.lit (.int .i64 a), .lit (.int .i64 b)], .agg [.lit (.int .i64 c), .lit (.int .i64 d)]] := by
    have := congrArg Prod.fst hx
    simpa using this.symm
  obtain ⟨⟨x0, p0⟩, ⟨x1, p1⟩, ⟨x2, p2⟩, rfl⟩ : ∃ x0 x1 x2, xs = [x0, x1, x2] := by
    match xs, hx3 with
    | [x0, x1, x2], _ => exact ⟨x0, x1, x2, rfl⟩
  simp only [List.map_cons, List.map_nil, List.cons.injEq, and_true] at hx3
  obtain ⟨e0, e1, e2⟩ := hx3
  subst e0 e1 e2
  have f0 := hall 0 _ rfl
  have f1 := hall 1 _ rfl
  have f2 := hall 2 _ rfl
  change DataW.trod _ _ _ _ _ _ _ 4 ((cs.drop 0).take (Tryd.prog.cellsOf 4)) = some _ at f0
  change DataW.trod _ _ _ _ _ _ _ 79 ((cs.drop 1).take (Tryd.prog.cellsOf 79)) = some _ at f1
  change DataW.trod _ _ _ _ _ _ _ 79 ((cs.drop 3).take (Tryd.prog.cellsOf 79)) = some _ at f2
  rw [cellsBool] at f0
  rw [cellsSpan] at f1 f2
  obtain ⟨y, hy, hyx⟩ := DataW.trod_bool Tryd.underlying4 f0
  cases hyx
  have g0 := take_at hy
  have g1 := span_cells f1
  have g2 := span_cells f2
  match cs, hl, g0, g1, g2 with
  | [c0, c1, c2, c3, c4], _, g0, g1, g2 =>
    simp at g0 g1 g2
    rw [g0, g1.1, g1.2, g2.1, g2.2]
end
/-- A row of the table as a datum. -/
def shD {H : Type} (k : Nat) : DataW H := .agg [.lit (.bool (shB k)), .agg [.lit (.int .i64 (shV k).1), .lit (.int .i64 (shV k).2)], .agg [.lit (.int .i64 (shN k).1), .lit (.int .i64 (shN k).2)]]
theorem laid_shD {H : Type} : (Rows.laid_estreat_pred_shapes : DataW H) = .agg ((List.range 13).map shD) := rfl
theorem shp_of_laid {W : World} (h : laidMetH Tryd.prog [("estreat/pred.shapes", Rows.laid_estreat_pred_shapes)] W) : Shp W := by
  have h1 : laidMet Tryd.prog [("estreat/pred.shapes", Rows.laid_estreat_pred_shapes)] W := h
  obtain ⟨ps, ⟨g', t', cs, fuel, p, q, hg', ht', hvar, hd, _, _⟩, _⟩ := h1
  obtain rfl := Option.some.inj (gShp.symm.trans hg')
  obtain rfl := Option.some.inj (gShpType.symm.trans ht')
  obtain ⟨xs, m, rfl, hx, hlen, hxl, hall⟩ := DataW.trod_array Tryd.underlying82 hd
  have hmap : xs.map (·.1) = (List.range 13).map shD := by
    have := congrArg Prod.fst hx
    rw [laid_shD] at this
    simpa using this.symm
  intro k hk
  have hk2 : (xs.map (·.1))[k]? = some (shD k) := by rw [hmap, List.getElem?_map, List.getElem?_range hk]; rfl
  rw [List.getElem?_map, Option.map_eq_some_iff] at hk2
  obtain ⟨⟨d, q'⟩, hxk, hdk⟩ := hk2
  simp only at hdk
  subst hdk
  have hk3 := hall k hk
  rw [hxk, cellsShape] at hk3
  have hc := shape_cells hk3
  have hat : ∀ j v, ([.bool (shB k), .int .i64 (shV k).1, .int .i64 (shV k).2, .int .i64 (shN k).1, .int .i64 (shN k).2] : List Value)[j]? = some v → W.cell? ⟨0, k * 5 + j, none⟩ = some v := fun j v hv => by
    rw [← hc, List.getElem?_take] at hv
    have hj : j < 5 := by
      by_cases h : j < 5
      · exact h
      · rw [if_neg h] at hv; cases hv
    rw [if_pos hj, List.getElem?_drop] at hv
    have := World.var?_cell gShp hvar (k * 5 + j)
    rw [this]
    simpa using hv
  exact ⟨hat 0 _ rfl, hat 1 _ rfl, hat 2 _ rfl, hat 3 _ rfl, hat 4 _ rfl⟩
/-- The table's cells. -/
def shC : Array Value := ((List.range 13).flatMap fun k => [.bool (shB k), .int .i64 (shV k).1, .int .i64 (shV k).2, .int .i64 (shN k).1, .int .i64 (shN k).2]).toArray
/-- A world that meets the row's list. -/
noncomputable def laidWorldS (os : Os) : World :=
  { World.holding Tryd.prog os ⟨#[], #[], []⟩ with heap := (World.holding Tryd.prog os ⟨#[], #[], []⟩).heap.modify 0 fun
      | .cells _ t frozen => .cells shC t frozen
      | o => o }
def laidShp : List (String × DataW Unit) := [("estreat/pred.shapes", Rows.laid_estreat_pred_shapes)]
theorem laidWorldS_met (os : Os) (args : Array Value) : laidMetH Tryd.prog laidShp ((laidWorldS os).forCall (fun _ _ => 0) ⟨#[], args, []⟩).memory :=
  laidMet_of_run' 8 (by kernel_rfl) (by kernel_rfl)
end Go.Proofs.YtmjpjllbfgkfbaaDoor

/- Zones on plain data, and which truths may be. No program; no condition. -/
namespace Go.Proofs.YtmjpjllbfgkfbaaDoor
open Go.RowKit
set_option linter.unusedVariables false
set_option linter.unusedSimpArgs false
set_option maxRecDepth 100000

/-- A zone: how many are nothing; are there others; the least and the greatest of these. -/
abbrev Zn := Int × Bool × Vl × Vl
/-- Which truths may be: False, Unknown, True. -/
abbrev Tr3 := Bool × Bool × Bool
/-- Has a predicate what its operator has? -/
def frmZ (op col : Int) (v n : Nat) : Prop := ((1 ≤ op ∧ op ≤ 9) ∨ col = 0) ∧
  (((op = 0 ∨ op = 9) ∧ v = 0 ∧ n = 0) ∨ (1 ≤ op ∧ op ≤ 6 ∧ v = 1 ∧ n = 0) ∨ (op = 7 ∧ v ≤ 256 ∧ n = 0) ∨ (op = 8 ∧ v = 2 ∧ n = 0) ∨ ((op = 10 ∨ op = 11) ∧ v = 0 ∧ 1 ≤ n ∧ n ≤ 256) ∨ (op = 12 ∧ v = 0 ∧ n = 1))
instance (op col : Int) (v n : Nat) : Decidable (frmZ op col v n) := by unfold frmZ; exact inferInstance
/-- What may be (True; False) of a predicate that names a column, of values that aren't nothing. -/
def oneZ (op : Int) (vals : List Vl) (z : Zn) : Bool × Bool :=
  let a := vals.getD 0 (0, 0, [])
  let b := vals.getD 1 (0, 0, [])
  let mn := z.2.2.1
  let mx := z.2.2.2
  let same := decide (cmpV mn a ≤ 0) && decide (0 ≤ cmpV mx a)
  let other := !decide (cmpV mn a = 0) || !decide (cmpV mx a = 0)
  if op = 1 then (same, other)
  else if op = 2 then (other, same)
  else if op = 3 then (decide (cmpV mn a < 0), decide (0 ≤ cmpV mx a))
  else if op = 4 then (decide (cmpV mn a ≤ 0), decide (0 < cmpV mx a))
  else if op = 5 then (decide (0 < cmpV mx a), decide (cmpV mn a ≤ 0))
  else if op = 6 then (decide (0 ≤ cmpV mx a), decide (cmpV mn a < 0))
  else if op = 7 then (vals.any fun v => decide (0 ≤ cmpV v mn) && decide (cmpV v mx ≤ 0), vals.all fun v => !(decide (cmpV v mn = 0) && decide (cmpV v mx = 0)))
  else ((decide (cmpV a b ≤ 0) && decide (cmpV a mx ≤ 0)) && decide (0 ≤ cmpV b mn), decide (cmpV mn a < 0) || decide (0 < cmpV mx b))
/-- A truth of three. -/
def at3 (t : Tr3) : Nat → Bool
  | 0 => t.1
  | 1 => t.2.1
  | _ => t.2.2
/-- One more choice of a truth of each: 'is' says whether both may be, 'k' which truth comes of it. -/
def put3 (t : Tr3) (is : Bool) (k : Nat) : Tr3 := (t.1 || (is && decide (k = 0)), t.2.1 || (is && decide (k = 1)), t.2.2 || (is && decide (k = 2)))
/-- What comes of a choice. -/
def of2 (op : Int) (a b : Nat) : Nat := if op = 10 then min a b else max a b
/-- The choices of one truth of the first and of so many of the second. -/
def jnB (op : Int) (o x : Tr3) (a : Nat) (t : Tr3) : Nat → Tr3
  | 0 => t
  | b + 1 => put3 (jnB op o x a t b) (at3 o a && at3 x b) (of2 op a b)
/-- The choices of so many truths of the first. -/
def jnA (op : Int) (o x : Tr3) : Nat → Tr3
  | 0 => (false, false, false)
  | a + 1 => jnB op o x a (jnA op o x a) 3
/-- What comes of each choice of truths. -/
def jn3 (op : Int) (o x : Tr3) : Tr3 := jnA op o x 3
def zNone : Zn := (0, false, (0, 0, []), (0, 0, []))
mutual
/-- The truths that may be of a predicate. -/
def mayP (rows : Int) (zs : List Zn) : Pd → Tr3
  | .mk op col vals parts =>
    if rows < 1 then (false, false, false)
    else if ¬ frmZ op col vals.length parts.length ∨ (1 ≤ op ∧ op ≤ 9) ∧ (col < 0 ∨ (zs.length : Int) ≤ col) then (true, true, true)
    else if op = 0 then (false, false, true)
    else
      let z := zs.getD col.toNat zNone
      if op = 9 then (decide (z.1 < rows), false, decide (0 < z.1))
      else if 1 ≤ op ∧ op ≤ 9 then
        let tf := if z.2.1 then oneZ op vals z else (false, false)
        (tf.2, decide (0 < z.1), tf.1)
      else
        let ts := mayL rows zs parts
        let o := ts.headD (false, false, false)
        if op = 12 then (o.2.2, o.2.1, o.1) else ts.tail.foldl (jn3 op) o
/-- Those of parts. -/
def mayL (rows : Int) (zs : List Zn) : List Pd → List Tr3
  | [] => []
  | p :: l => mayP rows zs p :: mayL rows zs l
end
theorem mayL_map (rows : Int) (zs : List Zn) : ∀ l, mayL rows zs l = l.map (mayP rows zs)
  | [] => by simp [mayL]
  | p :: l => by rw [mayL, mayL_map rows zs l]; rfl
/-- How big a predicate is, up to so much and so deep: as it is reckoned, part by part. -/
def szP (most : Int) : Nat → Pd → Int
  | 0, _ => most + 1
  | d + 1, p =>
    let n := p.vals.foldl (fun n v => if n ≤ most then n + 1 + (v.2.2.length : Int) else n) 1
    p.parts.foldl (fun n q => if n ≤ most then n + szP most d q else n) n
/-- Does a zone that is told hold for so many rows? -/
def sndZ (z : Zn) (rows kind : Int) : Bool :=
  if z.1 < 0 ∨ rows < z.1 ∨ z.2.1 ≠ decide (z.1 < rows) then false
  else if z.2.1 = false then decide (z.2.2.1 = (0, 0, []) ∧ z.2.2.2 = (0, 0, []))
  else decide ((kind = 1 ∨ kind = 2) ∧ z.2.2.1.1 = kind ∧ z.2.2.2.1 = kind ∧ rgt kind z.2.2.1 = true ∧ rgt kind z.2.2.2 = true ∧ z.2.2.1.2.2.length ≤ 65536 ∧ z.2.2.2.2.2.length ≤ 65536 ∧ cmpV z.2.2.1 z.2.2.2 ≤ 0)
end Go.Proofs.YtmjpjllbfgkfbaaDoor

/- What may be of values that aren't nothing, as the program reckons it, is what the document says; choices of the same truths; what may be of a predicate out of what may be of its parts. No program; no condition. -/
namespace Go.Proofs.YtmjpjllbfgkfbaaDoor
open Go.RowKit
set_option linter.unusedVariables false
set_option linter.unusedSimpArgs false
set_option maxRecDepth 100000

/-- Is a value ahead of another? -/
def ahV (a b : Vl) : Bool := decide (cmpV a b < 0)
/-- Is it between both ends? -/
def wiZ (mn mx v : Vl) : Bool := !ahV v mn && !ahV mx v
/-- Is it the only one? -/
def alZ (mn mx v : Vl) : Bool := decide (cmpV mn v = 0) && decide (cmpV mx v = 0)
/-- What may be (True; False) of values that aren't nothing. -/
def ofZ (op : Int) (vals : List Vl) (mn mx : Vl) : Bool × Bool :=
  let a := vals.getD 0 (0, 0, [])
  let b := vals.getD 1 (0, 0, [])
  if op = 1 then (wiZ mn mx a, !alZ mn mx a)
  else if op = 2 then (!alZ mn mx a, wiZ mn mx a)
  else if op = 3 then (ahV mn a, !ahV mx a)
  else if op = 4 then (!ahV a mn, ahV a mx)
  else if op = 5 then (ahV a mx, !ahV a mn)
  else if op = 6 then (!ahV mx a, ahV mn a)
  else if op = 7 then (vals.any (wiZ mn mx), !vals.any (alZ mn mx))
  else ((!ahV b a && !ahV mx a) && !ahV b mn, ahV mn a || ahV b mx)
theorem ah_le (a b : Vl) : (!ahV a b) = decide (cmpV b a ≤ 0) := by
  unfold ahV; rw [Bool.eq_iff_iff]; simp only [Bool.not_eq_true', decide_eq_false_iff_not, decide_eq_true_iff]; have := cmp_turn a b; omega
theorem ah_ge (a b : Vl) : (!ahV a b) = decide (0 ≤ cmpV a b) := by
  unfold ahV; rw [Bool.eq_iff_iff]; simp only [Bool.not_eq_true', decide_eq_false_iff_not, decide_eq_true_iff]; omega
theorem ah_gt (a b : Vl) : ahV a b = decide (0 < cmpV b a) := by
  unfold ahV; rw [Bool.eq_iff_iff]; simp only [decide_eq_true_iff]; have := cmp_turn a b; omega
theorem cmp_zero (a b : Vl) : decide (cmpV a b = 0) = decide (cmpV b a = 0) := by
  rw [Bool.eq_iff_iff]; simp only [decide_eq_true_iff]; have := cmp_turn a b; omega
theorem all_not {α : Type} (p : α → Bool) : ∀ l : List α, (!l.any p) = l.all fun v => !p v
  | [] => rfl
  | a :: l => by rw [List.any_cons, List.all_cons, Bool.not_or, all_not p l]
theorem ofZ_is (op : Int) (vals : List Vl) (z : Zn) : oneZ op vals z = ofZ op vals z.2.2.1 z.2.2.2 := by
  obtain ⟨nl, so, mn, mx⟩ := z
  unfold oneZ ofZ
  simp only
  obtain ⟨a, ha⟩ : ∃ a, vals.getD 0 (0, 0, []) = a := ⟨_, rfl⟩
  obtain ⟨b, hb⟩ : ∃ b, vals.getD 1 (0, 0, []) = b := ⟨_, rfl⟩
  rw [ha, hb]
  have e1 : wiZ mn mx a = (decide (cmpV mn a ≤ 0) && decide (0 ≤ cmpV mx a)) := by unfold wiZ; rw [ah_le a mn, ah_ge mx a]
  have e2 : (!alZ mn mx a) = (!decide (cmpV mn a = 0) || !decide (cmpV mx a = 0)) := by unfold alZ; rw [Bool.not_and]
  have e3 : vals.any (wiZ mn mx) = vals.any fun v => decide (0 ≤ cmpV v mn) && decide (cmpV v mx ≤ 0) := by
    congr 1; funext v; unfold wiZ; rw [ah_ge v mn, ah_le mx v]
  have e4 : (!vals.any (alZ mn mx)) = vals.all fun v => !(decide (cmpV v mn = 0) && decide (cmpV v mx = 0)) := by
    rw [all_not]; congr 1; funext v; unfold alZ; rw [cmp_zero mn v, cmp_zero mx v]
  have e5 : ((!ahV b a && !ahV mx a) && !ahV b mn) = ((decide (cmpV a b ≤ 0) && decide (cmpV a mx ≤ 0)) && decide (0 ≤ cmpV b mn)) := by rw [ah_le b a, ah_le mx a, ah_ge b mn]
  rw [e1, e2, e3, e4, e5, ah_ge mx a, ah_le a mn, ah_gt a mx, ah_gt b mx]
  simp only [ahV]
theorem jn3_same (op : Int) (t : Tr3) : jn3 op t t = t := by
  obtain ⟨a, b, c⟩ := t
  by_cases h : op = 10
  · subst h; cases a <;> cases b <;> cases c <;> rfl
  · have e : ∀ x y, of2 op x y = max x y := fun x y => if_neg h
    simp only [jn3, jnA, jnB, e]
    cases a <;> cases b <;> cases c <;> rfl
/-- Is a predicate formed as it should be, and is there the column that it names? -/
def okZ (cols : Nat) (op col : Int) (v n : Nat) : Prop := frmZ op col v n ∧ (1 ≤ op ∧ op ≤ 9 → 0 ≤ col ∧ col < (cols : Int))
instance (cols : Nat) (op col : Int) (v n : Nat) : Decidable (okZ cols op col v n) := by unfold okZ; exact inferInstance
/-- What may be of a predicate, out of what may be of its parts. -/
def stZ (rows : Int) (zs : List Zn) (op col : Int) (vals : List Vl) (ts : List Tr3) : Tr3 :=
  if op = 0 then (false, false, true)
  else
    let z := zs.getD col.toNat zNone
    if op = 9 then (decide (z.1 < rows), false, decide (0 < z.1))
    else if 1 ≤ op ∧ op ≤ 9 then
      let tf := if z.2.1 then ofZ op vals z.2.2.1 z.2.2.2 else (false, false)
      (tf.2, decide (0 < z.1), tf.1)
    else
      let o := ts.headD (false, false, false)
      if op = 12 then (o.2.2, o.2.1, o.1) else ts.tail.foldl (jn3 op) o
theorem mayP_is (rows : Int) (zs : List Zn) (p : Pd) (hr : 1 ≤ rows) :
    mayP rows zs p = if okZ zs.length p.op p.col p.vals.length p.parts.length then stZ rows zs p.op p.col p.vals (mayL rows zs p.parts) else (true, true, true) := by
  obtain ⟨op, col, vals, parts⟩ := p
  rw [mayP, if_neg (by omega)]
  change _ = if okZ zs.length op col vals.length parts.length then stZ rows zs op col vals (mayL rows zs parts) else (true, true, true)
  by_cases h : okZ zs.length op col vals.length parts.length
  · rw [if_pos h, if_neg (by obtain ⟨h1, h2⟩ := h; rintro (e | ⟨e1, e2⟩); exact e h1; have := h2 e1; omega)]
    unfold stZ
    simp only [ofZ_is]
  · rw [if_neg h, if_pos]
    by_cases h1 : frmZ op col vals.length parts.length
    · right
      refine Classical.byContradiction fun e => h ⟨h1, fun e1 => ?_⟩
      have : ¬ (col < 0 ∨ (zs.length : Int) ≤ col) := fun e2 => e ⟨e1, e2⟩
      omega
    · exact .inl h1
end Go.Proofs.YtmjpjllbfgkfbaaDoor

/- A predicate that came in, opened: a tree in memory. -/
namespace Go.Proofs.YtmjpjllbfgkfbaaDoor
open Go.ChangeShapes Go.WideShapes Go.Deep Go.RowKit
set_option linter.unusedVariables false
set_option linter.unusedSimpArgs false
set_option maxRecDepth 100000

/-- Its numbers are machine numbers, down to so many levels. -/
def WfP : Nat → Pd → Prop
  | 0, _ => True
  | f + 1, p => (In64 p.op ∧ In64 p.col ∧ ∀ v ∈ p.vals, In64 v.1 ∧ In64 v.2.1) ∧ ∀ q ∈ p.parts, WfP f q
/-- Its texts are as long as texts may be, down to so many levels. -/
def LenP (M : Nat) : Nat → Pd → Prop
  | 0, _ => True
  | f + 1, p => (∀ v ∈ p.vals, v.2.2.length ≤ M) ∧ ∀ q ∈ p.parts, LenP M f q
section
variable {H : Type} {enc : TypeId × Value → H} {P : Program} {w : World} {base : Nat} {spare : Nat → Bool} {held : Bool}
/-- A struct of one-cell fields. -/
theorem open_struct1 {e : TypeId} {fs : Array Field} {fuel : Nat} {cs : List Value} {x : DataW H × List MemPlace} (he : P.underlying e = some (.struct fs)) (hone : oneCellFields P fs = true) (hC : P.cellsOf e = fs.size) (h : DataW.trod enc P w base spare held fuel e cs = some x) :
    ∃ (n : Nat) (ys : List (DataW H × List MemPlace)), fuel = n + 1 ∧ x.1 = .agg (ys.map (·.1)) ∧ cs.length = fs.size ∧ ∀ (j : Nat) (f : Field), fs[j]? = some f → ∃ (v : Value) (y : DataW H × List MemPlace), cs[j]? = some v ∧ ys[j]? = some y ∧ DataW.trod enc P w base spare held n f.type [v] = some y := by
  obtain ⟨ys, n', hn', hy, hlen, hyl, hf⟩ := DataW.trod_struct he h
  refine ⟨n', ys, hn', by rw [hy], hlen.trans hC, fun j f hj => ?_⟩
  obtain ⟨ho, hk⟩ := hone_of hone j f hj
  have hjl : j < fs.size := (Array.getElem?_eq_some_iff.1 hj).1
  have hcl : j < cs.length := by omega
  have h1 := hf j f hj
  rw [ho, hk] at h1
  have hone' : (cs.drop j).take 1 = [cs[j]'hcl] := by
    rw [List.drop_eq_getElem_cons hcl]
    rfl
  rw [hone'] at h1
  have hys : ys[j]? = some (ys[j]'(by omega)) := List.getElem?_eq_getElem (by omega)
  exact ⟨_, _, List.getElem?_eq_getElem hcl, hys, h1.trans hys⟩
theorem weightsAll_mem {e : TypeId} : ∀ {l : List (DataW H)} {d : DataW H}, d ∈ l → ∀ n ∈ d.weights P e, n ∈ DataW.weightsAll P e l
  | a :: l, d, hd, n, hn => by
    simp only [DataW.weightsAll, List.mem_append]
    rcases List.mem_cons.1 hd with rfl | hd
    · exact .inl hn
    · exact .inr (weightsAll_mem hd n hn)
/-- A weight within a field, within an element. -/
theorem weights_agg {t : TypeId} {fs : Array Field} {ys : List (DataW H × List MemPlace)} (hu : P.underlying t = some (.struct fs)) {j : Nat} {f : Field} {y : DataW H × List MemPlace} (hj : fs[j]? = some f) (hy : ys[j]? = some y) : ∀ n ∈ y.1.weights P f.type, n ∈ (DataW.agg (ys.map (·.1))).weights P t := by
  intro n hn
  simp only [DataW.weights, hu]
  exact DataW.weights_mem_each (j := j) (by rw [List.getElem?_map, Array.getElem?_toList, hj]; rfl) (by rw [List.getElem?_map, hy]; rfl) n hn
theorem weights_slice {t e : TypeId} {l r : List (DataW H)} (hu : P.underlying t = some (.slice e)) {d : DataW H} (hd : d ∈ l) : ∀ n ∈ d.weights P e, n ∈ (DataW.slice l r).weights P t := by
  intro n hn
  simp only [DataW.weights, hu, List.mem_cons, List.mem_append]
  exact .inr (.inl (weightsAll_mem hd n hn))
end
theorem cellsVl : Tryd.prog.cellsOf 37 = 3 := by kernel_rfl
section
variable {H : Type} {enc : TypeId × Value → H} {W : World}
theorem val_cells {n : Nat} {cs : List Value} {x : DataW H × List MemPlace} (h : DataW.trod enc Tryd.prog W 0 (fun _ => true) true n 37 cs = some x) : ∃ v : Vl, cs = vc v ∧ (In64 v.1 ∧ In64 v.2.1) ∧ ∀ M, (∀ k ∈ x.1.weights Tryd.prog 37, k ≤ M) → v.2.2.length ≤ M := by
  obtain ⟨m, ys, rfl, hx, hlen, hfld⟩ := open_struct1 Tryd.underlying37 (by kernel_rfl) (by kernel_rfl) h
  obtain ⟨v0, y0, c0, _, t0⟩ := hfld 0 _ rfl
  obtain ⟨v1, y1, c1, _, t1⟩ := hfld 1 _ rfl
  obtain ⟨v2, y2, c2, g2, t2⟩ := hfld 2 _ rfl
  obtain ⟨k, e0, _, wk⟩ := DataW.trod_int Tryd.underlying3 t0
  obtain ⟨i, e1, _, wi⟩ := DataW.trod_int Tryd.underlying2 t1
  obtain ⟨s, e2, hy2, _⟩ := DataW.trod_string Tryd.underlying9 t2
  injection e0 with e0
  injection e1 with e1
  injection e2 with e2
  subst e0 e1 e2
  refine ⟨(k, i, s.data.toList), ?_, ⟨by have := i64_of wk; show In64 k; unfold In64; omega, by have := i64_of wi; show In64 i; unfold In64; omega⟩, fun M hM => ?_⟩
  · match cs, hlen, c0, c1, c2 with
    | [a, b, c], _, c0, c1, c2 =>
      simp at c0 c1 c2
      rw [c0, c1, c2]
      rfl
  · refine hM _ ?_
    rw [hx]
    refine weights_agg Tryd.underlying37 (j := 2) rfl g2 _ ?_
    rw [hy2]
    simp [DataW.weights]
theorem vals2_of {n : Nat} {a : Option Addr} {len cap : Nat} {x : DataW H × List MemPlace} (hf : DataW.trod enc Tryd.prog W 0 (fun _ => true) true n 23 [.slice a len cap] = some x) :
    ∃ l, IsVals W a len cap l ∧ ∀ M, (∀ k ∈ x.1.weights Tryd.prog 23, k ≤ M) → ∀ v ∈ l, v.2.2.length ≤ M := by
  rcases DataW.trod_slice Tryd.underlying23 hf with ⟨e, _⟩ | ⟨x', n', c, elems, rest, m, hm, e, hx, hb, hl, hcm, hel, hat, _, _⟩
  · simp at e
    obtain ⟨rfl, rfl, rfl⟩ := e
    exact ⟨[], ⟨rfl, Nat.le_refl _, Nat.zero_le _, Reads.none_, by simp⟩, by simp⟩
  · simp at e
    obtain ⟨rfl, rfl, rfl⟩ := e
    have hall : ∀ j, ∃ v : Vl, j < len → W.cells? 0 (x'.add (j * 3)) 3 = some (vc v) ∧ (In64 v.1 ∧ In64 v.2.1) ∧ ∀ M, (∀ k ∈ x.1.weights Tryd.prog 23, k ≤ M) → v.2.2.length ≤ M := by
      intro j
      by_cases hj : j < len
      · have h1 := hat j hj
        rw [cellsVl, List.getElem?_eq_getElem (by omega)] at h1
        obtain ⟨cs', hc, ht⟩ := Option.bind_eq_some_iff.1 h1
        obtain ⟨v, rfl, hv, hw⟩ := val_cells ht
        refine ⟨v, fun _ => ⟨hc, hv, fun M hM => hw M fun k hk => hM k ?_⟩⟩
        rw [hx]
        exact weights_slice Tryd.underlying23 (List.mem_map.2 ⟨_, List.getElem_mem _, rfl⟩) k hk
      · exact ⟨(0, 0, []), fun h => absurd h hj⟩
    obtain ⟨F, hF⟩ := Classical.axiomOfChoice hall
    have hus : ∀ j, j < len → ∀ i, i < 3 → W.cell? ((x'.add (j * 3)).add i) = (vc (F j))[i]? := fun j hj i hi => by
      obtain ⟨_, _, h2⟩ := World.cells?_some (hF j hj).1
      exact h2 i hi
    refine ⟨(List.range len).map F, ⟨by simp, hl, hcm, ⟨by rw [vs_length]; simp, fun hn => ⟨x', rfl, ?_, fun j u hu => ?_⟩⟩, fun z hz => ?_⟩, fun M hM z hz => ?_⟩
    · have h3 := hus 0 hn 0 (by omega)
      have := World.block_lt_of_cell? W _ (h3.trans (List.getElem?_eq_getElem (by simp [vc])))
      rwa [block_of_add, block_of_add] at this
    · have hj : j < len * 3 := by
        have := (List.getElem?_eq_some_iff.1 hu).1
        rw [vs_length] at this
        simpa using this
      have hk : j / 3 < len := by omega
      have hu' : ((List.range len).map F)[j / 3]? = some (F (j / 3)) := by rw [List.getElem?_map, List.getElem?_range hk]; rfl
      obtain ⟨q0, q1, q2⟩ := vs_at hu'
      have h6 := hus (j / 3) hk (j % 3) (by omega)
      rw [Go.Deep.add_add, show j / 3 * 3 + j % 3 = j by omega] at h6
      rw [h6]
      have hm3 : j % 3 = 0 ∨ j % 3 = 1 ∨ j % 3 = 2 := by omega
      rcases hm3 with h | h | h
      · rw [show j / 3 * 3 = j by omega, hu] at q0; rw [h, q0]; rfl
      · rw [show j / 3 * 3 + 1 = j by omega, hu] at q1; rw [h, q1]; rfl
      · rw [show j / 3 * 3 + 2 = j by omega, hu] at q2; rw [h, q2]; rfl
    · obtain ⟨j, hj, rfl⟩ := List.mem_map.1 hz
      exact (hF j (List.mem_range.1 hj)).2.1
    · obtain ⟨j, hj, rfl⟩ := List.mem_map.1 hz
      exact (hF j (List.mem_range.1 hj)).2.2 M hM
end
theorem cellsPd : Tryd.prog.cellsOf 26 = 4 := by kernel_rfl
theorem WfP.less : ∀ {f : Nat} {p : Pd} (j : Nat), WfP (f + j) p → WfP f p
  | 0, _, _, _ => trivial
  | f + 1, p, j, h => by
    rw [show f + 1 + j = (f + j) + 1 by omega] at h
    exact ⟨h.1, fun q hq => (h.2 q hq).less j⟩
theorem pd_of {H : Type} {enc : TypeId × Value → H} {W : World} : ∀ (fuel : Nat) {cs : List Value} {x : DataW H × List MemPlace}, DataW.trod enc Tryd.prog W 0 (fun _ => true) true fuel 26 cs = some x → ∃ f p, IsP f W (fun _ => False) cs p ∧ (∀ k, WfP k p) ∧ ∀ M, (∀ n ∈ x.1.weights Tryd.prog 26, n ≤ M) → ∀ k, LenP M k p := by
  intro fuel
  induction fuel using Nat.strongRecOn with
  | ind fuel IH =>
    intro cs x h
    obtain ⟨n, ys, rfl, hx, hlen, hfld⟩ := open_struct1 Tryd.underlying26 (by kernel_rfl) (by kernel_rfl) h
    obtain ⟨v0, y0, c0, _, t0⟩ := hfld 0 _ rfl
    obtain ⟨v1, y1, c1, _, t1⟩ := hfld 1 _ rfl
    obtain ⟨v2, y2, c2, gy2, t2⟩ := hfld 2 _ rfl
    obtain ⟨v3, y3, c3, gy3, t3⟩ := hfld 3 _ rfl
    obtain ⟨op, e0, _, w0⟩ := DataW.trod_int Tryd.underlying3 t0
    obtain ⟨col, e1, _, w1⟩ := DataW.trod_int Tryd.underlying3 t1
    injection e0 with e0
    injection e1 with e1
    subst e0 e1
    have hop : In64 op := by have := i64_of w0; unfold In64; omega
    have hcol : In64 col := by have := i64_of w1; unfold In64; omega
    have hv2 : ∃ A l c, v2 = .slice A l c := by
      rcases Go.Deep.open_slice Tryd.underlying23 t2 with ⟨e, _⟩ | ⟨a1, l1, c1, _, _, _, _, e, _⟩
      · exact ⟨none, 0, 0, by simpa using e⟩
      · exact ⟨some a1, l1, c1, by simpa using e⟩
    obtain ⟨A2, l2, k2, rfl⟩ := hv2
    obtain ⟨vl, hvl, hvm⟩ := vals2_of t2
    have hvM : ∀ M, (∀ n ∈ x.1.weights Tryd.prog 26, n ≤ M) → ∀ v ∈ vl, v.2.2.length ≤ M := fun M hM => hvm M fun k hk => hM k (by rw [hx]; exact weights_agg Tryd.underlying26 (j := 2) rfl gy2 k hk)
    obtain ⟨g1, g2, g3, g4, g5⟩ := hvl
    subst g1
    have hcs : ∀ v3', v3 = v3' → cs = [.int .i64 op, .int .i64 col, .slice A2 vl.length k2, v3'] := by
      intro v3' e
      subst e
      match cs, hlen, c0, c1, c2, c3 with
      | [a, b, c, d], _, c0, c1, c2, c3 =>
        simp at c0 c1 c2 c3
        rw [c0, c1, c2, c3]
    rcases DataW.trod_slice Tryd.underlying24 t3 with ⟨e, _⟩ | ⟨a, len, cap, elems, rest, m, hm, e, hx3, hb, hl, hcm, hel, hat, _, _⟩
    · have e3 : v3 = .slice none 0 0 := by simpa using e
      refine ⟨1, .mk op col vl [], ⟨A2, k2, none, 0, hcs _ e3, g4, ⟨fun _ _ _ h => h, g2⟩, fun _ _ _ h => h, [], rfl, Reads.none_, fun k q hk => by simp [Pd.parts] at hk⟩, fun k => ?_, fun M hM k => ?_⟩
      · cases k with
        | zero => trivial
        | succ k => exact ⟨⟨hop, hcol, g5⟩, fun q hq => by simp [Pd.parts] at hq⟩
      · cases k with
        | zero => trivial
        | succ k => exact ⟨hvM M hM, fun q hq => by simp [Pd.parts] at hq⟩
    · have e3 : v3 = .slice (some a) len cap := by simpa using e
      have hall : ∀ j, ∃ y : List Value × Nat × Pd, j < len → W.cells? 0 (a.add (j * 4)) 4 = some y.1 ∧ IsP y.2.1 W (fun _ => False) y.1 y.2.2 ∧ (∀ k, WfP k y.2.2) ∧ ∀ M, (∀ n ∈ x.1.weights Tryd.prog 26, n ≤ M) → ∀ k, LenP M k y.2.2 := by
        intro j
        by_cases hj : j < len
        · have h1 := hat j hj
          rw [cellsPd, List.getElem?_eq_getElem (by omega)] at h1
          obtain ⟨cs', hc, ht⟩ := Option.bind_eq_some_iff.1 h1
          obtain ⟨f, p, hI, hW, hL⟩ := IH m (by omega) ht
          refine ⟨(cs', f, p), fun _ => ⟨hc, hI, hW, fun M hM => hL M fun k hk => hM k ?_⟩⟩
          rw [hx]
          refine weights_agg Tryd.underlying26 (j := 3) rfl gy3 k ?_
          rw [hx3]
          exact weights_slice Tryd.underlying24 (List.mem_map.2 ⟨_, List.getElem_mem _, rfl⟩) k hk
        · exact ⟨([], 0, Pd.none_), fun h => absurd h hj⟩
      obtain ⟨F, hF⟩ := Classical.axiomOfChoice hall
      have hmax : ∀ n, ∃ M, ∀ j, j < n → (F j).2.1 ≤ M := by
        intro n
        induction n with
        | zero => exact ⟨0, fun j h => absurd h (Nat.not_lt_zero _)⟩
        | succ n ih =>
          obtain ⟨M, hM⟩ := ih
          refine ⟨max M (F n).2.1, fun j hj => ?_⟩
          by_cases h : j < n
          · have := hM j h; omega
          · obtain rfl : j = n := by omega
            omega
      obtain ⟨M, hM⟩ := hmax len
      have hpl : ((List.range len).map fun j => (F j).2.2).length = len := by simp
      have hus : ∀ j, j < len → (F j).1.length = 4 ∧ ∀ i, i < 4 → W.cell? ((a.add (j * 4)).add i) = (F j).1[i]? := fun j hj => by
        obtain ⟨_, h1, h2⟩ := World.cells?_some (hF j hj).1
        exact ⟨h1, fun i hi => h2 i hi⟩
      have hreads : Reads W W.heap.size 4 (some a) len (((List.range len).map fun j => (F j).1).flatten) := by
        have h4 : ∀ u ∈ (List.range len).map fun j => (F j).1, u.length = 4 := fun u hu => by
          obtain ⟨j, hj, rfl⟩ := List.mem_map.1 hu
          exact (hus j (List.mem_range.1 hj)).1
        refine ⟨by rw [flat4_length h4]; simp, fun hn => ⟨a, rfl, ?_, fun j u hu => ?_⟩⟩
        · obtain ⟨h1, h2⟩ := hus 0 hn
          have h3 := h2 0 (by omega)
          rw [List.getElem?_eq_getElem (by omega)] at h3
          have := World.block_lt_of_cell? W _ h3
          rwa [block_of_add, block_of_add] at this
        · have hj : j < len * 4 := by
            have := (List.getElem?_eq_some_iff.1 hu).1
            rw [flat4_length h4] at this
            simpa using this
          have hk : j / 4 < len := by omega
          have hu' : ((List.range len).map fun j => (F j).1)[j / 4]? = some (F (j / 4)).1 := by rw [List.getElem?_map, List.getElem?_range hk]; rfl
          have h5 := flat4 h4 hu' (j := j % 4) (by omega)
          rw [show j / 4 * 4 + j % 4 = j by omega, hu] at h5
          have h6 := (hus (j / 4) hk).2 (j % 4) (by omega)
          rw [Go.Deep.add_add, show j / 4 * 4 + j % 4 = j by omega] at h6
          rw [h6, ← h5]
      refine ⟨M + 1, .mk op col vl ((List.range len).map fun j => (F j).2.2), ⟨A2, k2, some a, cap, ?_, g4, ⟨fun _ _ _ h => h, g2⟩, fun _ _ _ h => h, (List.range len).map fun j => (F j).1, by simp [Pd.parts], ?_, fun k q hk => ?_⟩, fun k => ?_, fun M hM k => ?_⟩
      · rw [hcs _ e3]
        simp [Pd.op, Pd.col, Pd.vals, Pd.parts]
      · show Reads W W.heap.size 4 (some a) ((List.range len).map fun j => (F j).2.2).length _
        rw [hpl]; exact hreads
      · have hk' : ((List.range len).map fun j => (F j).2.2)[k]? = some q := hk
        have hj : k < len := by
          have := (List.getElem?_eq_some_iff.1 hk').1
          simpa using this
        rw [List.getElem?_map, List.getElem?_range hj] at hk'
        injection hk' with hk'
        refine ⟨(F k).1, by rw [List.getElem?_map, List.getElem?_range hj]; rfl, ?_⟩
        rw [← hk']
        have h1 := (hF k hj).2.1.fuel (M - (F k).2.1)
        rwa [show (F k).2.1 + (M - (F k).2.1) = M by have := hM k hj; omega] at h1
      · cases k with
        | zero => trivial
        | succ k =>
          refine ⟨⟨hop, hcol, g5⟩, fun q hq => ?_⟩
          obtain ⟨j, hj, rfl⟩ := List.mem_map.1 hq
          exact (hF j (List.mem_range.1 hj)).2.2.1 k
      · cases k with
        | zero => trivial
        | succ k =>
          refine ⟨hvM M hM, fun q hq => ?_⟩
          obtain ⟨j, hj, rfl⟩ := List.mem_map.1 hq
          exact (hF j (List.mem_range.1 hj)).2.2.2 M hM k
end Go.Proofs.YtmjpjllbfgkfbaaDoor

/- The three cells of a block. No program; no condition. -/
namespace Go.Proofs.YtmjpjllbfgkfbaaDoor
open Go.RowKit
set_option linter.unusedVariables false
set_option linter.unusedSimpArgs false
set_option maxRecDepth 100000

theorem blk3 {w : World} {g : Nat} {t : TypeId} {a b c : Value} (h : Blk w g t #[a, b, c]) : w.cell? ⟨g, 0, none⟩ = some a ∧ w.cell? ⟨g, 1, none⟩ = some b ∧ w.cell? ⟨g, 2, none⟩ = some c := ⟨h.cell 0, h.cell 1, h.cell 2⟩
end Go.Proofs.YtmjpjllbfgkfbaaDoor
