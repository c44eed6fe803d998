/- Texts joined: Each Parts. -/
import Derived.Test.YtfpbijnlmlaloaaDoorWords
import Derived.Deep.Matrix
import Derived.Test.YtfpbijnlmlaloaaDoorJ2
/- A relation between the values of a row and byte texts, one for one. No program. -/
namespace Go.Proofs.YtfpbijnlmlaloaaDoor
open Go.RowKit
set_option linter.unusedVariables false
set_option linter.unusedSimpArgs false

def Each (R : Value → List Nat → Prop) : List Value → List (List Nat) → Prop
  | [], [] => True
  | v :: vs, l :: ls => R v l ∧ Each R vs ls
  | _, _ => False
theorem Each.imp {R R' : Value → List Nat → Prop} (h : ∀ v l, R v l → R' v l) : ∀ {vs : List Value} {ls : List (List Nat)}, Each R vs ls → Each R' vs ls := by
  intro vs
  induction vs with
  | nil => intro ls e; cases ls with
    | nil => trivial
    | cons l ls => exact e.elim
  | cons v vs ih => intro ls e; cases ls with
    | nil => exact e.elim
    | cons l ls => exact ⟨h v l e.1, ih e.2⟩
theorem Each.length {R : Value → List Nat → Prop} : ∀ {vs : List Value} {ls : List (List Nat)}, Each R vs ls → vs.length = ls.length := by
  intro vs
  induction vs with
  | nil => intro ls e; cases ls with
    | nil => rfl
    | cons l ls => exact e.elim
  | cons v vs ih => intro ls e; cases ls with
    | nil => exact e.elim
    | cons l ls => simp [ih e.2]
theorem Each.append {R : Value → List Nat → Prop} : ∀ {vs : List Value} {ls : List (List Nat)} {us : List Value} {ms : List (List Nat)}, Each R vs ls → Each R us ms → Each R (vs ++ us) (ls ++ ms) := by
  intro vs
  induction vs with
  | nil => intro ls us ms e f; cases ls with
    | nil => exact f
    | cons l ls => exact e.elim
  | cons v vs ih => intro ls us ms e f; cases ls with
    | nil => exact e.elim
    | cons l ls => exact ⟨e.1, ih e.2 f⟩
theorem Each.at_ {R : Value → List Nat → Prop} : ∀ {vs : List Value} {ls : List (List Nat)}, Each R vs ls → ∀ {i : Nat} {l : List Nat}, ls[i]? = some l → ∃ v, vs[i]? = some v ∧ R v l := by
  intro vs
  induction vs with
  | nil => intro ls e i l h; cases ls with
    | nil => simp at h
    | cons l ls => exact e.elim
  | cons v vs ih => intro ls e i l h; cases ls with
    | nil => exact e.elim
    | cons l' ls =>
      cases i with
      | zero => simp at h; subst h; exact ⟨v, by simp, e.1⟩
      | succ i => simp at h; obtain ⟨u, h1, h2⟩ := ih e.2 h; exact ⟨u, by simpa using h1, h2⟩
theorem Each.cells {R : Value → List Nat → Prop} (h1 : ∀ v l, R v l → v.oneCell' = true) : ∀ {vs : List Value} {ls : List (List Nat)}, Each R vs ls → ∀ u ∈ vs, u.oneCell' = true := by
  intro vs
  induction vs with
  | nil => intro ls e u hu; simp at hu
  | cons v vs ih => intro ls e u hu; cases ls with
    | nil => exact e.elim
    | cons l ls =>
      rcases List.mem_cons.1 hu with rfl | hu
      · exact h1 _ _ e.1
      · exact ih e.2 u hu
theorem Each.range {R : Value → List Nat → Prop} (g : Nat → Value) (f : Nat → List Nat) (n : Nat) (h : ∀ r, r < n → R (g r) (f r)) : Each R ((List.range n).map g) ((List.range n).map f) := by
  induction n with
  | zero => trivial
  | succ n ih =>
    rw [List.range_succ, List.map_append, List.map_append]
    exact (ih fun r hr => h r (by omega)).append ⟨h n (by omega), trivial⟩
end Go.Proofs.YtfpbijnlmlaloaaDoor

/- Byte texts that came in as a slice of slices, with their room. -/
namespace Go.Proofs.YtfpbijnlmlaloaaDoor
open Go.ChangeShapes Go.WideShapes Go.RowKit
set_option linter.unusedVariables false
set_option linter.unusedSimpArgs false
set_option maxRecDepth 100000

/-- A slice that reads as bytes, within its room. -/
def IsC (w : World) (v : Value) (l : List Nat) : Prop := ∃ A c, v = .slice A l.length c ∧ l.length ≤ c ∧ Reads w w.heap.size 1 A l.length (bs l)
theorem IsC.next {w w' : World} {v : Value} {l : List Nat} (h : IsC w v l) (hb : Below w.heap.size w w') : IsC w' v l := by
  obtain ⟨A, c, e, hc, hr⟩ := h
  exact ⟨A, c, e, hc, (hr.below hb).more hb.size⟩
/-- A list of byte texts: a slice of such slices. -/
def LC (w : World) (A : Option Addr) (ls : List (List Nat)) : Prop := ∃ vs, Reads w w.heap.size 1 A ls.length vs ∧ Each (IsC w) vs ls
theorem LC.next {w w' : World} {A : Option Addr} {ls : List (List Nat)} (h : LC w A ls) (hb : Below w.heap.size w w') : LC w' A ls := by
  obtain ⟨vs, hr, he⟩ := h
  exact ⟨vs, (hr.below hb).more hb.size, he.imp fun v l hv => hv.next hb⟩
theorem LC.none_ {w : World} : LC w none [] := ⟨[], Reads.none_, trivial⟩
/-- The text at a place. -/
theorem LC.at_ {w : World} {A : Option Addr} {ls : List (List Nat)} (h : LC w A ls) {i : Nat} {l : List Nat} (hl : ls[i]? = some l) : ∃ ad u, A = some ad ∧ w.cell? (ad.add i) = some u ∧ IsC w u l := by
  obtain ⟨vs, hr, he⟩ := h
  obtain ⟨u, hu, hc⟩ := he.at_ hl
  obtain ⟨ad, u', e, _, h1, h2⟩ := hr.at_ (k := i) (List.getElem?_eq_some_iff.1 hl).1
  rw [hu] at h1
  injection h1 with h1
  subst h1
  exact ⟨ad, u, e, h2, hc⟩
/-- What the walk is told of a list of byte texts that came in. -/
def IsParts (w : World) (a : Option Addr) (len : Nat) (ls : List (List Nat)) : Prop := ls.length = len ∧ LC w a ls ∧ ∀ l ∈ ls, ∀ b ∈ l, b < 256
theorem parts_of {H : Type} {enc : TypeId × Value → H} {W : World} {a : Option Addr} {len cap : Nat} {d : DataW H} {p : List MemPlace} (h : DataW.Trod enc Tryd.prog W 0 (fun _ => true) true 22 (.slice a len cap) d p) :
    ∃ ls, IsParts W a len ls := by
  obtain ⟨fuel, hf⟩ := h
  rcases Go.Deep.open_int_rows Tryd.underlying22 Tryd.underlying36 Tryd.underlying5 (by kernel_rfl) (by kernel_rfl) hf with ⟨hcs, _⟩ | ⟨x, l, c, A, L, C, Z, hcs, _, hl, hm, _, hi⟩
  · simp [Value.cells] at hcs
    obtain ⟨rfl, rfl, rfl⟩ := hcs
    exact ⟨[], rfl, LC.none_, by simp⟩
  · simp [Value.cells] at hcs
    obtain ⟨rfl, rfl, rfl⟩ := hcs
    have hall : ∀ r, ∃ t : List Nat, r < cap → t.length = L r ∧ L r ≤ C r ∧ Reads W W.heap.size 1 (A r) (L r) (bs t) ∧ ∀ b ∈ t, b < 256 := by
      intro r
      by_cases hr : r < cap
      · obtain ⟨hcell, h1, h2, h3, h4, h5, h6⟩ := hi r hr
        have hrow : IsRow .u8 W (A r) (L r) (C r) (Z r) := by
          cases hA : A r with
          | none =>
            have hC := h5 hA
            rw [hC] at h1 h3
            exact .inl ⟨rfl, by omega, hC, List.eq_nil_of_length_eq_zero h3⟩
          | some y => exact .inr ⟨y, rfl, h1, h2, h3, fun i hi' => (h6 y hA).2 i (by omega), h4⟩
        obtain ⟨t, ht1, htc, ht2, ht3⟩ := hrow.bytes
        exact ⟨t, fun _ => ⟨ht1, htc, ht2, ht3⟩⟩
      · exact ⟨[], fun h => absurd h hr⟩
    obtain ⟨f, hfn⟩ := Classical.axiomOfChoice hall
    refine ⟨(List.range len).map f, by simp, ⟨(List.range len).map fun r => .slice (A r) (L r) (C r), ?_, ?_⟩, ?_⟩
    · refine ⟨by simp, fun hn => ⟨x, rfl, ?_, fun j u hu => ?_⟩⟩
      · have := World.block_lt_of_cell? W _ (hi 0 (by simp at hn; omega)).1
        rwa [block_of_add] at this
      · have hj : j < len := by
          have := (List.getElem?_eq_some_iff.1 hu).1
          simpa using this
        rw [List.getElem?_map, List.getElem?_range hj] at hu
        injection hu with hu
        rw [← hu]
        exact (hi j (by omega)).1
    · refine Each.range _ _ len fun r hr => ?_
      obtain ⟨h1, hc, h2, _⟩ := hfn r (by omega)
      exact ⟨A r, C r, by simp only [h1], by rw [h1]; exact hc, by rw [h1]; exact h2⟩
    · intro t ht
      obtain ⟨r, hr, rfl⟩ := List.mem_map.1 ht
      exact (hfn r (by have := List.mem_range.1 hr; omega)).2.2.2
end Go.Proofs.YtfpbijnlmlaloaaDoor
