/- Texts joined: VlOrd OpenStruct Vals. -/
import Derived.Test.YtieknhhhcjdbnaaDoorJ12
import Derived.Deep.Slices
import Derived.Deep.Fields
import Derived.ChangeSame
import Derived.ProofKit
import Derived.OpenShut
import Derived.Test.YtieknhhhcjdbnaaDoorJ2
import Derived.Test.YtieknhhhcjdbnaaDoorJ7
import Derived.Test.YtieknhhhcjdbnaaDoorJ10
/- The order of a column's values, told plainly: turned about it is turned; ahead of one that is ahead is ahead; the same are the same, if they may stand in columns. What is wrong with a schema, with a row. No program; no condition. -/
namespace Go.Proofs.YtieknhhhcjdbnaaDoor
open Go.RowKit
set_option linter.unusedVariables false
set_option linter.unusedSimpArgs false

/-- Values of one kind: which is ahead. -/
def vahd (a b : Vl) : Prop := a.1 = 1 ∧ a.2.1 < b.2.1 ∨ a.1 = 2 ∧ tlt a.2.2 b.2.2
instance (a b : Vl) : Decidable (vahd a b) := by unfold vahd; exact inferInstance
/-- The order of two values. -/
def cmpV (a b : Vl) : Int := if a.1 < b.1 then -1 else if b.1 < a.1 then 1 else if vahd a b then -1 else if vahd b a then 1 else 0
/-- Below, at or above: one of three, by the kind; within a kind by its own order. -/
theorem cmp_cases (a b : Vl) : (a.1 < b.1 ∧ cmpV a b = -1) ∨ (b.1 < a.1 ∧ cmpV a b = 1) ∨ (a.1 = b.1 ∧ ((a.1 = 1 ∧ (a.2.1 < b.2.1 ∧ cmpV a b = -1 ∨ b.2.1 < a.2.1 ∧ cmpV a b = 1 ∨ a.2.1 = b.2.1 ∧ cmpV a b = 0)) ∨
    (a.1 = 2 ∧ (tlt a.2.2 b.2.2 ∧ cmpV a b = -1 ∨ tlt b.2.2 a.2.2 ∧ cmpV a b = 1 ∨ a.2.2 = b.2.2 ∧ cmpV a b = 0)) ∨ (a.1 ≠ 1 ∧ a.1 ≠ 2 ∧ cmpV a b = 0))) := by
  by_cases h1 : a.1 < b.1
  · exact .inl ⟨h1, by unfold cmpV; rw [if_pos h1]⟩
  by_cases h2 : b.1 < a.1
  · exact .inr (.inl ⟨h2, by unfold cmpV; rw [if_neg h1, if_pos h2]⟩)
  have h3 : a.1 = b.1 := by omega
  refine .inr (.inr ⟨h3, ?_⟩)
  have hc : cmpV a b = if vahd a b then -1 else if vahd b a then 1 else 0 := by unfold cmpV; rw [if_neg h1, if_neg h2]
  rw [hc]
  by_cases k1 : a.1 = 1
  · refine .inl ⟨k1, ?_⟩
    have e1 : vahd a b ↔ a.2.1 < b.2.1 := by unfold vahd; constructor; (rintro (⟨_, h⟩ | ⟨h, _⟩); exact h; omega); exact fun h => .inl ⟨k1, h⟩
    have e2 : vahd b a ↔ b.2.1 < a.2.1 := by unfold vahd; constructor; (rintro (⟨_, h⟩ | ⟨h, _⟩); exact h; omega); exact fun h => .inl ⟨by omega, h⟩
    by_cases l1 : a.2.1 < b.2.1
    · exact .inl ⟨l1, by rw [if_pos (e1.2 l1)]⟩
    by_cases l2 : b.2.1 < a.2.1
    · exact .inr (.inl ⟨l2, by rw [if_neg (fun h => l1 (e1.1 h)), if_pos (e2.2 l2)]⟩)
    · exact .inr (.inr ⟨by omega, by rw [if_neg (fun h => l1 (e1.1 h)), if_neg (fun h => l2 (e2.1 h))]⟩)
  by_cases k2 : a.1 = 2
  · refine .inr (.inl ⟨k2, ?_⟩)
    have e1 : vahd a b ↔ tlt a.2.2 b.2.2 := by unfold vahd; constructor; (rintro (⟨h, _⟩ | ⟨_, h⟩); omega; exact h); exact fun h => .inr ⟨k2, h⟩
    have e2 : vahd b a ↔ tlt b.2.2 a.2.2 := by unfold vahd; constructor; (rintro (⟨h, _⟩ | ⟨_, h⟩); omega; exact h); exact fun h => .inr ⟨by omega, h⟩
    by_cases l1 : tlt a.2.2 b.2.2
    · exact .inl ⟨l1, by rw [if_pos (e1.2 l1)]⟩
    by_cases l2 : tlt b.2.2 a.2.2
    · exact .inr (.inl ⟨l2, by rw [if_neg (fun h => l1 (e1.1 h)), if_pos (e2.2 l2)]⟩)
    · refine .inr (.inr ⟨Classical.byContradiction fun e => l2 (tlt_total l1 e), by rw [if_neg (fun h => l1 (e1.1 h)), if_neg (fun h => l2 (e2.1 h))]⟩)
  · refine .inr (.inr ⟨k1, k2, ?_⟩)
    rw [if_neg, if_neg]
    · unfold vahd; rintro (⟨h, _⟩ | ⟨h, _⟩) <;> omega
    · unfold vahd; rintro (⟨h, _⟩ | ⟨h, _⟩) <;> omega
/-- Turned about it is turned. -/
theorem cmp_turn (a b : Vl) : cmpV b a = - cmpV a b := by
  rcases cmp_cases a b with ⟨h, e⟩ | ⟨h, e⟩ | ⟨h, hr⟩
  · rw [e]; rcases cmp_cases b a with ⟨h', e'⟩ | ⟨h', e'⟩ | ⟨h', _⟩ <;> omega
  · rw [e]; rcases cmp_cases b a with ⟨h', e'⟩ | ⟨h', e'⟩ | ⟨h', _⟩ <;> omega
  · rcases cmp_cases b a with ⟨h', e'⟩ | ⟨h', e'⟩ | ⟨h', hr'⟩
    · omega
    · omega
    · rcases hr with ⟨k, hr⟩ | ⟨k, hr⟩ | ⟨k, k', hr⟩
      · rcases hr' with ⟨_, hr'⟩ | ⟨_, _⟩ | ⟨_, _, _⟩
        · rcases hr with ⟨_, e⟩ | ⟨_, e⟩ | ⟨_, e⟩ <;> rcases hr' with ⟨_, e'⟩ | ⟨_, e'⟩ | ⟨_, e'⟩ <;> omega
        · omega
        · omega
      · rcases hr' with ⟨_, _⟩ | ⟨_, hr'⟩ | ⟨_, _, _⟩
        · omega
        · rcases hr with ⟨l, e⟩ | ⟨l, e⟩ | ⟨l, e⟩ <;> rcases hr' with ⟨l', e'⟩ | ⟨l', e'⟩ | ⟨l', e'⟩
          all_goals first
            | omega
            | exact absurd l' (tlt_asymm l)
            | (rw [l'] at l; exact absurd l (tlt_irrefl _))
            | (rw [l] at l'; exact absurd l' (tlt_irrefl _))
        · omega
      · rcases hr' with ⟨_, _⟩ | ⟨_, _⟩ | ⟨_, _, e'⟩ <;> omega
theorem cmp_range (a b : Vl) : cmpV a b = -1 ∨ cmpV a b = 0 ∨ cmpV a b = 1 := by
  rcases cmp_cases a b with ⟨_, e⟩ | ⟨_, e⟩ | ⟨_, ⟨_, ⟨_, e⟩ | ⟨_, e⟩ | ⟨_, e⟩⟩ | ⟨_, ⟨_, e⟩ | ⟨_, e⟩ | ⟨_, e⟩⟩ | ⟨_, _, e⟩⟩ <;> simp [e]
/-- At or below. -/
theorem cmp_le_iff (a b : Vl) : cmpV a b ≤ 0 ↔ a.1 < b.1 ∨ a.1 = b.1 ∧ (a.1 = 1 → a.2.1 ≤ b.2.1) ∧ (a.1 = 2 → ¬ tlt b.2.2 a.2.2) := by
  rcases cmp_cases a b with ⟨h, e⟩ | ⟨h, e⟩ | ⟨h, ⟨k, ⟨l, e⟩ | ⟨l, e⟩ | ⟨l, e⟩⟩ | ⟨k, ⟨l, e⟩ | ⟨l, e⟩ | ⟨l, e⟩⟩ | ⟨k, k', e⟩⟩
  · exact ⟨fun _ => .inl h, fun _ => by omega⟩
  · exact ⟨fun _ => by omega, fun h' => by rcases h' with h' | ⟨h', _⟩ <;> omega⟩
  · exact ⟨fun _ => .inr ⟨h, fun _ => by omega, fun _ => by omega⟩, fun _ => by omega⟩
  · exact ⟨fun _ => by omega, fun h' => by rcases h' with h' | ⟨_, h', _⟩; omega; have := h' k; omega⟩
  · exact ⟨fun _ => .inr ⟨h, fun _ => by omega, fun _ => by omega⟩, fun _ => by omega⟩
  · exact ⟨fun _ => .inr ⟨h, fun _ => by omega, fun _ => tlt_asymm l⟩, fun _ => by omega⟩
  · exact ⟨fun _ => by omega, fun h' => by rcases h' with h' | ⟨_, _, h'⟩; omega; exact absurd l (h' k)⟩
  · exact ⟨fun _ => .inr ⟨h, fun _ => by omega, fun _ => by rw [l]; exact tlt_irrefl _⟩, fun _ => by omega⟩
  · exact ⟨fun _ => .inr ⟨h, fun _ => by omega, fun _ => by omega⟩, fun _ => by omega⟩
/-- Ahead of one that is ahead is ahead. -/
theorem cmp_trans {a b c : Vl} (h1 : cmpV a b ≤ 0) (h2 : cmpV b c ≤ 0) : cmpV a c ≤ 0 := by
  rw [cmp_le_iff] at *
  rcases h1 with h1 | ⟨h1, n1, t1⟩
  · rcases h2 with h2 | ⟨h2, _, _⟩
    · exact .inl (by omega)
    · exact .inl (by omega)
  · rcases h2 with h2 | ⟨h2, n2, t2⟩
    · exact .inl (by omega)
    · refine .inr ⟨by omega, fun k => ?_, fun k hlt => ?_⟩
      · have := n1 k; have := n2 (by omega); omega
      · have h3 := t1 k
        have h4 := t2 (by omega)
        by_cases e : c.2.2 = b.2.2
        · rw [e] at hlt; exact h3 hlt
        · have hbc : tlt b.2.2 c.2.2 := tlt_total h4 e
          exact h3 (tlt_trans hbc hlt)
theorem cmp_trans' {a b c : Vl} (h1 : 0 ≤ cmpV a b) (h2 : 0 ≤ cmpV b c) : 0 ≤ cmpV a c := by
  have e1 := cmp_turn a b
  have e2 := cmp_turn b c
  have e3 := cmp_turn a c
  have := cmp_trans (a := c) (b := b) (c := a) (by omega) (by omega)
  omega
/-- The same are the same, if they may stand in columns. -/
theorem cmp_same {a b : Vl} (ha : rgt 1 a = true ∨ rgt 2 a = true) (hb : rgt 1 b = true ∨ rgt 2 b = true) : cmpV a b = 0 ↔ a = b := by
  have hf : ∀ v : Vl, (rgt 1 v = true ∨ rgt 2 v = true) → v = (0, 0, []) ∨ (v.1 = 1 ∧ v.2.2 = []) ∨ (v.1 = 2 ∧ v.2.1 = 0) := by
    intro v hv
    rcases hv with hv | hv
    · rcases rgt_kind hv with e | ⟨e, _, e2⟩ | ⟨_, e, _⟩
      · exact .inl e
      · exact .inr (.inl ⟨e, e2⟩)
      · omega
    · rcases rgt_kind hv with e | ⟨_, e, _⟩ | ⟨e, _, e2⟩
      · exact .inl e
      · omega
      · exact .inr (.inr ⟨e, e2⟩)
  obtain ⟨a0, a1, a2⟩ := a
  obtain ⟨b0, b1, b2⟩ := b
  have fa := hf _ ha
  have fb := hf _ hb
  simp only [Prod.mk.injEq] at fa fb
  constructor
  · intro h
    rcases cmp_cases (a0, a1, a2) (b0, b1, b2) with ⟨_, e⟩ | ⟨_, e⟩ | ⟨h1, ⟨k, ⟨_, e⟩ | ⟨_, e⟩ | ⟨l, e⟩⟩ | ⟨k, ⟨_, e⟩ | ⟨_, e⟩ | ⟨l, e⟩⟩ | ⟨k, k', e⟩⟩
    all_goals try omega
    all_goals simp only at h1 k
    · simp only at l
      subst l
      rcases fa with ⟨e1, _, _⟩ | ⟨_, e2⟩ | ⟨e1, _⟩
      · omega
      · rcases fb with ⟨e1, _, _⟩ | ⟨_, e2'⟩ | ⟨e1, _⟩
        · omega
        · rw [e2, e2', h1]
        · omega
      · omega
    · simp only at l
      subst l
      rcases fa with ⟨e1, _, _⟩ | ⟨e1, _⟩ | ⟨_, e2⟩
      · omega
      · omega
      · rcases fb with ⟨e1, _, _⟩ | ⟨e1, _⟩ | ⟨_, e2'⟩
        · omega
        · omega
        · rw [e2, e2', h1]
    · simp only at k'
      rcases fa with ⟨e1, e2, e3⟩ | ⟨e1, _⟩ | ⟨e1, _⟩
      · rcases fb with ⟨e1', e2', e3'⟩ | ⟨e1', _⟩ | ⟨e1', _⟩
        · rw [e1, e2, e3, e1', e2', e3']
        · omega
        · omega
      · omega
      · omega
  · intro h
    rw [h]
    have := cmp_turn (b0, b1, b2) (b0, b1, b2)
    omega
end Go.Proofs.YtieknhhhcjdbnaaDoor

/- A slice of structs of one-cell fields that came in, opened to its cells. -/
namespace Go.Proofs.YtieknhhhcjdbnaaDoor
open Go.ChangeShapes Go.WideShapes Go.Deep Go.RowKit
section
variable {H : Type} {enc : TypeId × Value → H} {P : Program} {w : World} {base : Nat} {spare : Nat → Bool} {held : Bool}
theorem open_slice_fields {t e : TypeId} {fs : Array Field} {fuel : Nat} {cs : List Value} {x : DataW H × List MemPlace} (ht : P.underlying t = some (.slice e)) (he : P.underlying e = some (.struct fs))
    (hone : oneCellFields P fs = true) (hC : P.cellsOf e = fs.size) (h : DataW.trod enc P w base spare held fuel t cs = some x) :
    (cs = [.slice none 0 0] ∧ x = (.nil, [])) ∨
    ∃ (a : Addr) (len cap m : Nat) (D : Nat → DataW H) (Pl : Nat → List MemPlace), cs = [.slice (some a) len cap] ∧ base ≤ a.block ∧ len ≤ cap ∧ cap ≤ maxLen ∧ m = (if spare a.block then cap else len) ∧
      x = (.slice ((List.range len).map D) ((List.range (m - len)).map fun j => D (len + j)), MemPlace.row a (m * fs.size) ++ (List.range m).flatMap Pl) ∧
      ∀ i, i < m → ∃ (ys : List (DataW H × List MemPlace)) (n : Nat), D i = .agg (ys.map (·.1)) ∧ Pl i = ys.flatMap (·.2) ∧ ys.length = fs.size ∧
        ∀ (j : Nat) (f : Field), fs[j]? = some f → ∃ (v : Value) (y : DataW H × List MemPlace), w.cell? (a.add (i * fs.size + j)) = some v ∧ ys[j]? = some y ∧ DataW.trod enc P w base spare held n f.type [v] = some y := by
  rcases open_slice ht h with h0 | ⟨a, len, cap, m, n, D, Pl, hcs, hb, hl, hm, hmm, hx, hi⟩
  · exact .inl h0
  · refine .inr ⟨a, len, cap, m, D, Pl, hcs, hb, hl, hm, hmm, by rw [hC] at hx; exact hx, fun i him => ?_⟩
    obtain ⟨cs', hc, ht'⟩ := hi i him
    rw [hC] at hc
    obtain ⟨ys, n', hn', hy, hlen, hyl, hf⟩ := DataW.trod_struct he ht'
    obtain ⟨_, hcl, hat⟩ := World.cells?_some hc
    simp only [Prod.mk.injEq] at hy
    refine ⟨ys, n', hy.1, hy.2, hyl, fun j f hj => ?_⟩
    obtain ⟨ho, hk⟩ := hone_of hone j f hj
    have hjl : j < fs.size := (Array.getElem?_eq_some_iff.1 hj).1
    have hcell := hat j hjl
    have hv : cs'[j]? = some (cs'[j]'(by omega)) := List.getElem?_eq_getElem (by omega)
    have h1 := hf j f hj
    rw [ho, hk] at h1
    have hone' : (cs'.drop j).take 1 = [cs'[j]'(by omega)] := by
      rw [List.drop_eq_getElem_cons (by omega)]
      rfl
    rw [hone'] at h1
    have hys : ys[j]? = some (ys[j]'(by omega)) := List.getElem?_eq_getElem (by omega)
    refine ⟨_, _, ?_, hys, h1.trans hys⟩
    rw [← Go.Deep.add_add, hcell, hv]
end
end Go.Proofs.YtieknhhhcjdbnaaDoor

/- A column's values in memory: structs of three cells, one behind the other; a list of them that came in, opened. -/
namespace Go.Proofs.YtieknhhhcjdbnaaDoor
open Go.ChangeShapes Go.WideShapes Go.RowKit
set_option linter.unusedVariables false
set_option linter.unusedSimpArgs false
set_option maxRecDepth 100000

/-- A value's cells. -/
def vc (v : Int × Int × Tx) : List Value := [.int .i64 v.1, .int .i64 v.2.1, .string ⟨v.2.2.toArray⟩]
/-- Values as cells. -/
def vs (l : List (Int × Int × Tx)) : List Value := l.flatMap vc
theorem vs_nil : vs [] = [] := rfl
theorem vs_append (a b : List (Int × Int × Tx)) : vs (a ++ b) = vs a ++ vs b := by simp [vs]
theorem vs_one (v : Int × Int × Tx) : vs [v] = vc v := by simp [vs]
theorem vs_cons (v : Int × Int × Tx) (l : List (Int × Int × Tx)) : vs (v :: l) = vc v ++ vs l := by simp [vs]
theorem vs_length : ∀ l : List (Int × Int × Tx), (vs l).length = l.length * 3
  | [] => rfl
  | v :: l => by rw [vs_cons, List.length_append, vs_length l]; simp [vc]; omega
theorem vc_cell (v : Int × Int × Tx) : ∀ u ∈ vc v, u.oneCell' = true := by
  intro u hu
  simp [vc] at hu
  rcases hu with rfl | rfl | rfl <;> rfl
theorem vs_at : ∀ {l : List (Int × Int × Tx)} {k : Nat} {v : Int × Int × Tx}, l[k]? = some v → (vs l)[k * 3]? = some (.int .i64 v.1) ∧ (vs l)[k * 3 + 1]? = some (.int .i64 v.2.1) ∧ (vs l)[k * 3 + 2]? = some (.string ⟨v.2.2.toArray⟩)
  | [], k, v, h => by simp at h
  | x :: l, 0, v, h => by
    simp at h
    subst h
    rw [vs_cons]
    exact ⟨rfl, rfl, rfl⟩
  | x :: l, k + 1, v, h => by
    simp at h
    obtain ⟨h1, h2, h3⟩ := vs_at h
    have e : ∀ j, (vc x ++ vs l)[3 + j]? = (vs l)[j]? := fun j => by
      rw [List.getElem?_append_right (by simp [vc])]
      congr 1
      simp [vc]
    rw [vs_cons, show (k + 1) * 3 = 3 + k * 3 by omega, show 3 + k * 3 + 1 = 3 + (k * 3 + 1) by omega, show 3 + k * 3 + 2 = 3 + (k * 3 + 2) by omega, e, e, e]
    exact ⟨h1, h2, h3⟩
theorem Reads.val {w : World} {B n : Nat} {A : Option Addr} {l : List (Int × Int × Tx)} (h : Reads w B 3 A n (vs l)) {k : Nat} {v : Int × Int × Tx} (hv : l[k]? = some v) :
    ∃ b o, A = some ⟨b, o, none⟩ ∧ b < B ∧ w.cell? ⟨b, o + k * 3, none⟩ = some (.int .i64 v.1) ∧ w.cell? ⟨b, o + k * 3 + 1, none⟩ = some (.int .i64 v.2.1) ∧ w.cell? ⟨b, o + k * 3 + 2, none⟩ = some (.string ⟨v.2.2.toArray⟩) := by
  have hk : k < l.length := (List.getElem?_eq_some_iff.1 hv).1
  have hn : 0 < n := by have := h.1; rw [vs_length] at this; omega
  obtain ⟨⟨b, o, sp⟩, rfl, hb, hc⟩ := h.2 hn
  obtain ⟨h1, h2, h3⟩ := vs_at hv
  have c1 := hc _ _ h1
  have c2 := hc _ _ h2
  have c3 := hc _ _ h3
  have hl : 0 < (vs l).length := by rw [vs_length]; omega
  obtain rfl : sp = none := by simpa [Addr.add] using World.cell?_spot (hc 0 _ (List.getElem?_eq_getElem hl))
  rw [plain_add] at c1 c2 c3
  exact ⟨b, o, rfl, hb, c1, by rw [← c2, Nat.add_assoc], by rw [← c3, Nat.add_assoc]⟩
/-- What the walk is told of a list of values that came in. -/
def IsVals (w : World) (a : Option Addr) (len cap : Nat) (l : List (Int × Int × Tx)) : Prop :=
  l.length = len ∧ len ≤ cap ∧ cap ≤ maxLen ∧ Reads w w.heap.size 3 a len (vs l) ∧ ∀ v ∈ l, In64 v.1 ∧ In64 v.2.1
theorem vals_of {H : Type} {enc : TypeId × Value → H} {W : World} {a : Option Addr} {len cap : Nat} {d : DataW H} {p : List MemPlace} (h : DataW.Trod enc Tryd.prog W 0 (fun _ => true) true 47 (.slice a len cap) d p) :
    ∃ l, IsVals W a len cap l := by
  obtain ⟨fuel, hf⟩ := h
  rcases open_slice_fields Tryd.underlying47 Tryd.underlying31 (by kernel_rfl) (by kernel_rfl) hf with ⟨hcs, _⟩ | ⟨x, l, c, mm, D, Pl, hcs, _, hl, hcm, hmm, _, hi⟩
  · simp [Value.cells] at hcs
    obtain ⟨rfl, rfl, rfl⟩ := hcs
    exact ⟨[], rfl, Nat.le_refl _, Nat.zero_le _, Reads.none_, by simp⟩
  · simp [Value.cells] at hcs
    obtain ⟨rfl, rfl, rfl⟩ := hcs
    have hall : ∀ j, ∃ y : Int × Int × Tx, j < len → (In64 y.1 ∧ In64 y.2.1) ∧ ∀ i v, (vc y)[i]? = some v → W.cell? (x.add (j * 3 + i)) = some v := by
      intro j
      by_cases hj : j < len
      · obtain ⟨ys, nn, _, _, _, hfld⟩ := hi j (by rw [hmm]; simp; omega)
        obtain ⟨v0, y0, c0, _, t0⟩ := hfld 0 _ rfl
        obtain ⟨v1, y1, c1, _, t1⟩ := hfld 1 _ rfl
        obtain ⟨v2, y2, c2, _, t2⟩ := hfld 2 _ rfl
        obtain ⟨k, e0, _, wk⟩ := DataW.trod_int Tryd.underlying3 t0
        obtain ⟨n, e1, _, wn⟩ := DataW.trod_int Tryd.underlying2 t1
        obtain ⟨s, e2, _, _⟩ := DataW.trod_string Tryd.underlying9 t2
        injection e0 with e0
        injection e1 with e1
        injection e2 with e2
        subst e0 e1 e2
        have hk : In64 k := by have := i64_of wk; unfold In64; omega
        have hn : In64 n := by have := i64_of wn; unfold In64; omega
        refine ⟨⟨k, n, s.data.toList⟩, fun _ => ⟨⟨hk, hn⟩, fun i v hv => ?_⟩⟩
        unfold vc at hv
        rcases i with _ | _ | _ | i
        all_goals simp at hv
        all_goals subst hv
        · exact c0
        · exact c1
        · exact c2
      · exact ⟨(0, 0, []), fun h => absurd h hj⟩
    obtain ⟨f, hfn⟩ := Classical.axiomOfChoice hall
    have hget : ∀ j y, ((List.range len).map f)[j]? = some y → j < len ∧ y = f j := by
      intro j y hy
      have hj : j < len := by
        have := (List.getElem?_eq_some_iff.1 hy).1
        simpa using this
      rw [List.getElem?_map, List.getElem?_range hj] at hy
      injection hy with hy
      exact ⟨hj, hy.symm⟩
    refine ⟨(List.range len).map f, by simp, hl, hcm, ⟨by rw [vs_length]; simp, fun hn => ?_⟩, fun v hv => ?_⟩
    · refine ⟨x, rfl, ?_, fun j u hu => ?_⟩
      · have := World.block_lt_of_cell? W _ ((hfn 0 hn).2 0 _ rfl)
        rwa [block_of_add] at this
      · have hj : j < len * 3 := by
          have := (List.getElem?_eq_some_iff.1 hu).1
          rw [vs_length] at this
          simpa using this
        have hy : ((List.range len).map f)[j / 3]? = some (f (j / 3)) := by rw [List.getElem?_map, List.getElem?_range (by omega)]; rfl
        obtain ⟨h1, h2, h3⟩ := vs_at hy
        have hc := (hfn (j / 3) (by omega)).2
        obtain ⟨q, hq⟩ : ∃ q, j / 3 = q := ⟨_, rfl⟩
        rw [hq] at h1 h2 h3 hc
        have hr : j = q * 3 ∨ j = q * 3 + 1 ∨ j = q * 3 + 2 := by omega
        rcases hr with rfl | rfl | rfl
        · rw [h1] at hu; exact hc 0 _ (by rw [← hu]; rfl)
        · rw [h2] at hu; exact hc 1 _ (by rw [← hu]; rfl)
        · rw [h3] at hu; exact hc 2 _ (by rw [← hu]; rfl)
    · obtain ⟨j, hj, rfl⟩ := List.mem_map.1 hv
      exact (hfn j (List.mem_range.1 hj)).1
end Go.Proofs.YtieknhhhcjdbnaaDoor
