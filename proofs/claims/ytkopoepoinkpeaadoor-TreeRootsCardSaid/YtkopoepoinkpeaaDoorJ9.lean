/- Texts joined: Parts TrMem. -/
import Derived.Deep.Matrix
import Derived.Test.YtkopoepoinkpeaaDoorJ2
import Derived.Test.YtkopoepoinkpeaaDoorJ8
import Derived.Deep.MidRow
/- Byte texts that came in as a slice of slices, with their room. -/
namespace Go.Proofs.YtkopoepoinkpeaaDoor
open Go.ChangeShapes Go.WideShapes Go.RowKit
set_option linter.unusedVariables false
set_option linter.unusedSimpArgs false
set_option maxRecDepth 100000

/-- A slice that reads as bytes, within its room. -/
def IsC (w : World) (v : Value) (l : List Nat) : Prop := ∃ A c, v = .slice A l.length c ∧ l.length ≤ c ∧ Reads w w.heap.size 1 A l.length (bs l)
theorem IsC.next {w w' : World} {v : Value} {l : List Nat} (h : IsC w v l) (hb : Below w.heap.size w w') : IsC w' v l := by
  obtain ⟨A, c, e, hc, hr⟩ := h
  exact ⟨A, c, e, hc, (hr.below hb).more hb.size⟩
/-- A list of byte texts: a slice of such slices. -/
def LC (w : World) (A : Option Addr) (ls : List (List Nat)) : Prop := ∃ vs, Reads w w.heap.size 1 A ls.length vs ∧ Each (IsC w) vs ls
theorem LC.next {w w' : World} {A : Option Addr} {ls : List (List Nat)} (h : LC w A ls) (hb : Below w.heap.size w w') : LC w' A ls := by
  obtain ⟨vs, hr, he⟩ := h
  exact ⟨vs, (hr.below hb).more hb.size, he.imp fun v l hv => hv.next hb⟩
theorem LC.none_ {w : World} : LC w none [] := ⟨[], Reads.none_, trivial⟩
/-- The text at a place. -/
theorem LC.at_ {w : World} {A : Option Addr} {ls : List (List Nat)} (h : LC w A ls) {i : Nat} {l : List Nat} (hl : ls[i]? = some l) : ∃ ad u, A = some ad ∧ w.cell? (ad.add i) = some u ∧ IsC w u l := by
  obtain ⟨vs, hr, he⟩ := h
  obtain ⟨u, hu, hc⟩ := he.at_ hl
  obtain ⟨ad, u', e, _, h1, h2⟩ := hr.at_ (k := i) (List.getElem?_eq_some_iff.1 hl).1
  rw [hu] at h1
  injection h1 with h1
  subst h1
  exact ⟨ad, u, e, h2, hc⟩
/-- What the walk is told of a list of byte texts that came in. -/
def IsParts (w : World) (a : Option Addr) (len : Nat) (ls : List (List Nat)) : Prop := ls.length = len ∧ LC w a ls ∧ ∀ l ∈ ls, ∀ b ∈ l, b < 256
theorem parts_of {H : Type} {enc : TypeId × Value → H} {W : World} {a : Option Addr} {len cap : Nat} {d : DataW H} {p : List MemPlace} (h : DataW.Trod enc Tryd.prog W 0 (fun _ => true) true 22 (.slice a len cap) d p) :
    ∃ ls, IsParts W a len ls := by
  obtain ⟨fuel, hf⟩ := h
  rcases Go.Deep.open_int_rows Tryd.underlying22 Tryd.underlying37 Tryd.underlying5 (by kernel_rfl) (by kernel_rfl) hf with ⟨hcs, _⟩ | ⟨x, l, c, A, L, C, Z, hcs, _, hl, hm, _, hi⟩
  · simp [Value.cells] at hcs
    obtain ⟨rfl, rfl, rfl⟩ := hcs
    exact ⟨[], rfl, LC.none_, by simp⟩
  · simp [Value.cells] at hcs
    obtain ⟨rfl, rfl, rfl⟩ := hcs
    have hall : ∀ r, ∃ t : List Nat, r < cap → t.length = L r ∧ L r ≤ C r ∧ Reads W W.heap.size 1 (A r) (L r) (bs t) ∧ ∀ b ∈ t, b < 256 := by
      intro r
      by_cases hr : r < cap
      · obtain ⟨hcell, h1, h2, h3, h4, h5, h6⟩ := hi r hr
        have hrow : IsRow .u8 W (A r) (L r) (C r) (Z r) := by
          cases hA : A r with
          | none =>
            have hC := h5 hA
            rw [hC] at h1 h3
            exact .inl ⟨rfl, by omega, hC, List.eq_nil_of_length_eq_zero h3⟩
          | some y => exact .inr ⟨y, rfl, h1, h2, h3, fun i hi' => (h6 y hA).2 i (by omega), h4⟩
        obtain ⟨t, ht1, htc, ht2, ht3⟩ := hrow.bytes
        exact ⟨t, fun _ => ⟨ht1, htc, ht2, ht3⟩⟩
      · exact ⟨[], fun h => absurd h hr⟩
    obtain ⟨f, hfn⟩ := Classical.axiomOfChoice hall
    refine ⟨(List.range len).map f, by simp, ⟨(List.range len).map fun r => .slice (A r) (L r) (C r), ?_, ?_⟩, ?_⟩
    · refine ⟨by simp, fun hn => ⟨x, rfl, ?_, fun j u hu => ?_⟩⟩
      · have := World.block_lt_of_cell? W _ (hi 0 (by simp at hn; omega)).1
        rwa [block_of_add] at this
      · have hj : j < len := by
          have := (List.getElem?_eq_some_iff.1 hu).1
          simpa using this
        rw [List.getElem?_map, List.getElem?_range hj] at hu
        injection hu with hu
        rw [← hu]
        exact (hi j (by omega)).1
    · refine Each.range _ _ len fun r hr => ?_
      obtain ⟨h1, hc, h2, _⟩ := hfn r (by omega)
      exact ⟨A r, C r, by simp only [h1], by rw [h1]; exact hc, by rw [h1]; exact h2⟩
    · intro t ht
      obtain ⟨r, hr, rfl⟩ := List.mem_map.1 ht
      exact (hfn r (by have := List.mem_range.1 hr; omega)).2.2.2
end Go.Proofs.YtkopoepoinkpeaaDoor

/- Digests in memory: a slice of arrays of 32 bytes; lists of byte texts, a part of them. No program. -/
namespace Go.Proofs.YtkopoepoinkpeaaDoor
open Go.RowKit
set_option linter.unusedVariables false
set_option linter.unusedSimpArgs false

/-- Digests: 32 bytes each. -/
def Dg (ds : List (List Nat)) : Prop := ∀ d ∈ ds, d.length = 32 ∧ ∀ b ∈ d, b < 256
theorem Dg.take {ds : List (List Nat)} (h : Dg ds) (k : Nat) : Dg (ds.take k) := fun d hd => h d (List.mem_of_mem_take hd)
theorem Dg.drop {ds : List (List Nat)} (h : Dg ds) (k : Nat) : Dg (ds.drop k) := fun d hd => h d (List.mem_of_mem_drop hd)
theorem Dg.len {ds : List (List Nat)} (h : Dg ds) : ds.flatten.length = ds.length * 32 := by
  induction ds with
  | nil => rfl
  | cons d ds ih =>
    rw [List.flatten_cons, List.length_append, List.length_cons, ih (fun x hx => h x (by simp [hx])), (h d (by simp)).1]
    omega
theorem Dg.flat_take {ds : List (List Nat)} (h : Dg ds) (k : Nat) : (ds.take k).flatten = ds.flatten.take (k * 32) := by
  induction ds generalizing k with
  | nil => simp
  | cons d ds ih =>
    cases k with
    | zero => simp
    | succ k =>
      have hd := (h d (by simp)).1
      rw [List.take_succ_cons, List.flatten_cons, List.flatten_cons, ih (fun x hx => h x (by simp [hx])), List.take_append, hd, List.take_of_length_le (l := d) (by omega)]
      congr 2
      omega
theorem Dg.flat_drop {ds : List (List Nat)} (h : Dg ds) (k : Nat) : (ds.drop k).flatten = ds.flatten.drop (k * 32) := by
  induction ds generalizing k with
  | nil => simp
  | cons d ds ih =>
    cases k with
    | zero => simp
    | succ k =>
      have hd := (h d (by simp)).1
      rw [List.drop_succ_cons, List.flatten_cons, ih (fun x hx => h x (by simp [hx])), List.drop_append, hd, List.drop_of_length_le (l := d) (by omega), List.nil_append]
      congr 1
      omega
theorem Dg.at_ {ds : List (List Nat)} (h : Dg ds) {k : Nat} {d : List Nat} (hk : ds[k]? = some d) {j : Nat} (hj : j < 32) : ds.flatten[k * 32 + j]? = d[j]? := by
  induction ds generalizing k with
  | nil => simp at hk
  | cons e ds ih =>
    have he := (h e (by simp)).1
    rw [List.flatten_cons]
    cases k with
    | zero =>
      simp at hk
      subst hk
      rw [Nat.zero_mul, Nat.zero_add, List.getElem?_append_left (by omega)]
    | succ k =>
      rw [List.getElem?_append_right (by omega), he, show (k + 1) * 32 + j - 32 = k * 32 + j by omega]
      exact ih (fun x hx => h x (by simp [hx])) (by simpa using hk)
/-- A slice that reads as digests. -/
def HsAt (w : World) (A : Option Addr) (ds : List (List Nat)) : Prop := Reads w w.heap.size 32 A ds.length (bs ds.flatten)
theorem HsAt.next {w w' : World} {A : Option Addr} {ds : List (List Nat)} (h : HsAt w A ds) (hb : Below w.heap.size w w') : HsAt w' A ds := (Reads.below h hb).more hb.size
theorem HsAt.at_ {w : World} {A : Option Addr} {ds : List (List Nat)} (h : HsAt w A ds) (hd : Dg ds) {k : Nat} {d : List Nat} (hk : ds[k]? = some d) :
    ∃ b o, A = some ⟨b, o, none⟩ ∧ b < w.heap.size ∧ w.rangeAt b (o + k * 32) (bs d) := by
  have hlt : k < ds.length := (List.getElem?_eq_some_iff.1 hk).1
  obtain ⟨⟨b, o, sp⟩, rfl, hb, hc⟩ := h.2 (by omega)
  have hl := h.1
  obtain rfl : sp = none := by simpa [Addr.add] using World.cell?_spot (hc 0 _ (List.getElem?_eq_getElem (by omega)))
  refine ⟨b, o, rfl, hb, fun j v hv => ?_⟩
  have h32 := (hd d (List.mem_of_getElem? hk)).1
  have hj : j < 32 := by
    have := (List.getElem?_eq_some_iff.1 hv).1
    rw [bs_length, h32] at this
    exact this
  have h1 : (bs ds.flatten)[k * 32 + j]? = some v := by
    unfold bs at hv ⊢
    rw [List.getElem?_map] at hv ⊢
    rw [hd.at_ hk hj]
    exact hv
  have := hc (k * 32 + j) v h1
  rw [plain_add] at this
  rw [Nat.add_assoc]; exact this
theorem HsAt.fore {w : World} {A : Option Addr} {ds : List (List Nat)} (h : HsAt w A ds) (hd : Dg ds) {k : Nat} (hk : k ≤ ds.length) : HsAt w A (ds.take k) := by
  have := Reads.fore h hk
  unfold HsAt
  rw [hd.flat_take, ← bs_take, List.length_take, Nat.min_eq_left hk]
  exact this
theorem HsAt.cut {w : World} {A : Option Addr} {ds : List (List Nat)} (h : HsAt w A ds) (hd : Dg ds) {k cap : Nat} (hk : k ≤ ds.length) (hc : ds.length ≤ cap) : HsAt w (if cap = k then A else A.map (·.add (k * 32))) (ds.drop k) := by
  have := Reads.cut h hk hc
  unfold HsAt
  rw [hd.flat_drop, ← bs_drop, List.length_drop]
  exact this
theorem HsAt.of_own {w : World} {base : Nat} {e : TypeId} {A : Option Addr} {c : Nat} {ds : List (List Nat)} (h : w.ownsRow base e 32 (.slice A ds.length c) ds.length (bs ds.flatten)) : HsAt w A ds := Reads.of_own h

/-- Parts of a list of byte texts. -/
theorem Each.take {R : Value → List Nat → Prop} : ∀ {vs : List Value} {ls : List (List Nat)}, Each R vs ls → ∀ k, Each R (vs.take k) (ls.take k)
  | [], [], _, k => by rw [List.take_nil, List.take_nil]; trivial
  | _ :: _, _ :: _, e, 0 => trivial
  | _ :: _, _ :: _, e, k + 1 => ⟨e.1, Each.take e.2 k⟩
  | _ :: _, [], e, _ => e.elim
  | [], _ :: _, e, _ => e.elim
theorem Each.drop {R : Value → List Nat → Prop} : ∀ {vs : List Value} {ls : List (List Nat)}, Each R vs ls → ∀ k, Each R (vs.drop k) (ls.drop k)
  | [], [], _, k => by rw [List.drop_nil, List.drop_nil]; trivial
  | _ :: _, _ :: _, e, 0 => e
  | _ :: _, _ :: _, e, k + 1 => Each.drop e.2 k
  | _ :: _, [], e, _ => e.elim
  | [], _ :: _, e, _ => e.elim
theorem LC.fore {w : World} {A : Option Addr} {ls : List (List Nat)} (h : LC w A ls) {k : Nat} (hk : k ≤ ls.length) : LC w A (ls.take k) := by
  obtain ⟨vs, hr, he⟩ := h
  refine ⟨vs.take k, ?_, he.take k⟩
  have := hr.fore hk
  rw [Nat.mul_one] at this
  rw [List.length_take, Nat.min_eq_left hk]
  exact this
theorem LC.cut {w : World} {A : Option Addr} {ls : List (List Nat)} (h : LC w A ls) {k cap : Nat} (hk : k ≤ ls.length) (hc : ls.length ≤ cap) : LC w (if cap = k then A else A.map (·.add k)) (ls.drop k) := by
  obtain ⟨vs, hr, he⟩ := h
  refine ⟨vs.drop k, ?_, he.drop k⟩
  have := hr.cut hk hc
  rw [Nat.mul_one] at this
  rw [List.length_drop]
  exact this
/-- Texts that a new block lists. -/
theorem LC.laid {w : World} {t : TypeId} {vs : List Value} {ls : List (List Nat)} (h : Each (IsC w) vs ls) (hn : 0 < vs.length) : LC (w.alloc (.cells vs.toArray t)) (some ⟨w.heap.size, 0, none⟩) ls := by
  have hb : Below w.heap.size w (w.alloc (.cells vs.toArray t)) := (Below.refl _ _).alloc (Nat.le_refl _) _
  refine ⟨vs, ?_, h.imp fun v l hv => hv.next hb⟩
  have hl := h.length
  exact reads_blk (Blk.new w t vs.toArray) _ _ _ (by simp) hl (by simp [List.take_of_length_le, hl])
/-- Bytes of a whole block. -/
theorem IsC.blk {w : World} {g : Nat} {t : TypeId} {l : List Nat} {c : Nat} (h : Blk w g t (bs l).toArray) (hc : l.length ≤ c) : IsC w (.slice (some ⟨g, 0, none⟩) l.length c) l :=
  ⟨_, _, rfl, hc, reads_blk h _ _ _ h.lt (bs_length l) (by simp [List.take_of_length_le, bs_length])⟩
end Go.Proofs.YtkopoepoinkpeaaDoor
