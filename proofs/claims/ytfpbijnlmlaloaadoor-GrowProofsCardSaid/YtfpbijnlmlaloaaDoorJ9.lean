/- Texts joined: TrMem TrIn. -/
import Derived.Test.YtfpbijnlmlaloaaDoorJ8
import Derived.Deep.MidRow
import Derived.Deep.Slices
import Derived.Deep.Matrix
import Derived.Deep.Fields
import Derived.Test.YtfpbijnlmlaloaaDoorJ7
/- Digests in memory: a slice of arrays of 32 bytes; lists of byte texts, a part of them. No program. -/
namespace Go.Proofs.YtfpbijnlmlaloaaDoor
open Go.RowKit
set_option linter.unusedVariables false
set_option linter.unusedSimpArgs false

/-- Digests: 32 bytes each. -/
def Dg (ds : List (List Nat)) : Prop := ∀ d ∈ ds, d.length = 32 ∧ ∀ b ∈ d, b < 256
theorem Dg.take {ds : List (List Nat)} (h : Dg ds) (k : Nat) : Dg (ds.take k) := fun d hd => h d (List.mem_of_mem_take hd)
theorem Dg.drop {ds : List (List Nat)} (h : Dg ds) (k : Nat) : Dg (ds.drop k) := fun d hd => h d (List.mem_of_mem_drop hd)
theorem Dg.len {ds : List (List Nat)} (h : Dg ds) : ds.flatten.length = ds.length * 32 := by
  induction ds with
  | nil => rfl
  | cons d ds ih =>
    rw [List.flatten_cons, List.length_append, List.length_cons, ih (fun x hx => h x (by simp [hx])), (h d (by simp)).1]
    omega
theorem Dg.flat_take {ds : List (List Nat)} (h : Dg ds) (k : Nat) : (ds.take k).flatten = ds.flatten.take (k * 32) := by
  induction ds generalizing k with
  | nil => simp
  | cons d ds ih =>
    cases k with
    | zero => simp
    | succ k =>
      have hd := (h d (by simp)).1
      rw [List.take_succ_cons, List.flatten_cons, List.flatten_cons, ih (fun x hx => h x (by simp [hx])), List.take_append, hd, List.take_of_length_le (l := d) (by omega)]
      congr 2
      omega
theorem Dg.flat_drop {ds : List (List Nat)} (h : Dg ds) (k : Nat) : (ds.drop k).flatten = ds.flatten.drop (k * 32) := by
  induction ds generalizing k with
  | nil => simp
  | cons d ds ih =>
    cases k with
    | zero => simp
    | succ k =>
      have hd := (h d (by simp)).1
      rw [List.drop_succ_cons, List.flatten_cons, ih (fun x hx => h x (by simp [hx])), List.drop_append, hd, List.drop_of_length_le (l := d) (by omega), List.nil_append]
      congr 1
      omega
theorem Dg.at_ {ds : List (List Nat)} (h : Dg ds) {k : Nat} {d : List Nat} (hk : ds[k]? = some d) {j : Nat} (hj : j < 32) : ds.flatten[k * 32 + j]? = d[j]? := by
  induction ds generalizing k with
  | nil => simp at hk
  | cons e ds ih =>
    have he := (h e (by simp)).1
    rw [List.flatten_cons]
    cases k with
    | zero =>
      simp at hk
      subst hk
      rw [Nat.zero_mul, Nat.zero_add, List.getElem?_append_left (by omega)]
    | succ k =>
      rw [List.getElem?_append_right (by omega), he, show (k + 1) * 32 + j - 32 = k * 32 + j by omega]
      exact ih (fun x hx => h x (by simp [hx])) (by simpa using hk)
/-- A slice that reads as digests. -/
def HsAt (w : World) (A : Option Addr) (ds : List (List Nat)) : Prop := Reads w w.heap.size 32 A ds.length (bs ds.flatten)
theorem HsAt.next {w w' : World} {A : Option Addr} {ds : List (List Nat)} (h : HsAt w A ds) (hb : Below w.heap.size w w') : HsAt w' A ds := (Reads.below h hb).more hb.size
theorem HsAt.at_ {w : World} {A : Option Addr} {ds : List (List Nat)} (h : HsAt w A ds) (hd : Dg ds) {k : Nat} {d : List Nat} (hk : ds[k]? = some d) :
    ∃ b o, A = some ⟨b, o, none⟩ ∧ b < w.heap.size ∧ w.rangeAt b (o + k * 32) (bs d) := by
  have hlt : k < ds.length := (List.getElem?_eq_some_iff.1 hk).1
  obtain ⟨⟨b, o, sp⟩, rfl, hb, hc⟩ := h.2 (by omega)
  have hl := h.1
  obtain rfl : sp = none := by simpa [Addr.add] using World.cell?_spot (hc 0 _ (List.getElem?_eq_getElem (by omega)))
  refine ⟨b, o, rfl, hb, fun j v hv => ?_⟩
  have h32 := (hd d (List.mem_of_getElem? hk)).1
  have hj : j < 32 := by
    have := (List.getElem?_eq_some_iff.1 hv).1
    rw [bs_length, h32] at this
    exact this
  have h1 : (bs ds.flatten)[k * 32 + j]? = some v := by
    unfold bs at hv ⊢
    rw [List.getElem?_map] at hv ⊢
    rw [hd.at_ hk hj]
    exact hv
  have := hc (k * 32 + j) v h1
  rw [plain_add] at this
  rw [Nat.add_assoc]; exact this
theorem HsAt.fore {w : World} {A : Option Addr} {ds : List (List Nat)} (h : HsAt w A ds) (hd : Dg ds) {k : Nat} (hk : k ≤ ds.length) : HsAt w A (ds.take k) := by
  have := Reads.fore h hk
  unfold HsAt
  rw [hd.flat_take, ← bs_take, List.length_take, Nat.min_eq_left hk]
  exact this
theorem HsAt.cut {w : World} {A : Option Addr} {ds : List (List Nat)} (h : HsAt w A ds) (hd : Dg ds) {k cap : Nat} (hk : k ≤ ds.length) (hc : ds.length ≤ cap) : HsAt w (if cap = k then A else A.map (·.add (k * 32))) (ds.drop k) := by
  have := Reads.cut h hk hc
  unfold HsAt
  rw [hd.flat_drop, ← bs_drop, List.length_drop]
  exact this
theorem HsAt.of_own {w : World} {base : Nat} {e : TypeId} {A : Option Addr} {c : Nat} {ds : List (List Nat)} (h : w.ownsRow base e 32 (.slice A ds.length c) ds.length (bs ds.flatten)) : HsAt w A ds := Reads.of_own h

/-- Parts of a list of byte texts. -/
theorem Each.take {R : Value → List Nat → Prop} : ∀ {vs : List Value} {ls : List (List Nat)}, Each R vs ls → ∀ k, Each R (vs.take k) (ls.take k)
  | [], [], _, k => by rw [List.take_nil, List.take_nil]; trivial
  | _ :: _, _ :: _, e, 0 => trivial
  | _ :: _, _ :: _, e, k + 1 => ⟨e.1, Each.take e.2 k⟩
  | _ :: _, [], e, _ => e.elim
  | [], _ :: _, e, _ => e.elim
theorem Each.drop {R : Value → List Nat → Prop} : ∀ {vs : List Value} {ls : List (List Nat)}, Each R vs ls → ∀ k, Each R (vs.drop k) (ls.drop k)
  | [], [], _, k => by rw [List.drop_nil, List.drop_nil]; trivial
  | _ :: _, _ :: _, e, 0 => e
  | _ :: _, _ :: _, e, k + 1 => Each.drop e.2 k
  | _ :: _, [], e, _ => e.elim
  | [], _ :: _, e, _ => e.elim
theorem LC.fore {w : World} {A : Option Addr} {ls : List (List Nat)} (h : LC w A ls) {k : Nat} (hk : k ≤ ls.length) : LC w A (ls.take k) := by
  obtain ⟨vs, hr, he⟩ := h
  refine ⟨vs.take k, ?_, he.take k⟩
  have := hr.fore hk
  rw [Nat.mul_one] at this
  rw [List.length_take, Nat.min_eq_left hk]
  exact this
theorem LC.cut {w : World} {A : Option Addr} {ls : List (List Nat)} (h : LC w A ls) {k cap : Nat} (hk : k ≤ ls.length) (hc : ls.length ≤ cap) : LC w (if cap = k then A else A.map (·.add k)) (ls.drop k) := by
  obtain ⟨vs, hr, he⟩ := h
  refine ⟨vs.drop k, ?_, he.drop k⟩
  have := hr.cut hk hc
  rw [Nat.mul_one] at this
  rw [List.length_drop]
  exact this
/-- Texts that a new block lists. -/
theorem LC.laid {w : World} {t : TypeId} {vs : List Value} {ls : List (List Nat)} (h : Each (IsC w) vs ls) (hn : 0 < vs.length) : LC (w.alloc (.cells vs.toArray t)) (some ⟨w.heap.size, 0, none⟩) ls := by
  have hb : Below w.heap.size w (w.alloc (.cells vs.toArray t)) := (Below.refl _ _).alloc (Nat.le_refl _) _
  refine ⟨vs, ?_, h.imp fun v l hv => hv.next hb⟩
  have hl := h.length
  exact reads_blk (Blk.new w t vs.toArray) _ _ _ (by simp) hl (by simp [List.take_of_length_le, hl])
/-- Bytes of a whole block. -/
theorem IsC.blk {w : World} {g : Nat} {t : TypeId} {l : List Nat} {c : Nat} (h : Blk w g t (bs l).toArray) (hc : l.length ≤ c) : IsC w (.slice (some ⟨g, 0, none⟩) l.length c) l :=
  ⟨_, _, rfl, hc, reads_blk h _ _ _ h.lt (bs_length l) (by simp [List.take_of_length_le, bs_length])⟩
end Go.Proofs.YtfpbijnlmlaloaaDoor

/- Byte texts and digests that came in as slices, opened, with their room. -/
namespace Go.Proofs.YtfpbijnlmlaloaaDoor
open Go.ChangeShapes Go.WideShapes Go.Deep Go.RowKit Go.WideMaps
set_option linter.unusedVariables false
set_option linter.unusedSimpArgs false
set_option maxRecDepth 100000

/-- What the walk is told of a list of byte texts that came in, with its room. -/
def IsPartsC (w : World) (a : Option Addr) (len cap : Nat) (ls : List (List Nat)) : Prop := IsParts w a len ls ∧ len ≤ cap ∧ cap ≤ maxLen
theorem partsC_of {H : Type} {enc : TypeId × Value → H} {W : World} {a : Option Addr} {len cap : Nat} {d : DataW H} {p : List MemPlace} (h : DataW.Trod enc Tryd.prog W 0 (fun _ => true) true 22 (.slice a len cap) d p) :
    ∃ ls, IsPartsC W a len cap ls := by
  obtain ⟨ls, hp⟩ := parts_of h
  refine ⟨ls, hp, ?_⟩
  obtain ⟨fuel, hf⟩ := h
  rcases Go.Deep.open_int_rows Tryd.underlying22 Tryd.underlying36 Tryd.underlying5 (by kernel_rfl) (by kernel_rfl) hf with ⟨hcs, _⟩ | ⟨x, l, c, A, L, C, Z, hcs, _, hl, hm, _, hi⟩
  · simp [Value.cells] at hcs
    obtain ⟨rfl, rfl, rfl⟩ := hcs
    exact ⟨Nat.le_refl _, Nat.zero_le _⟩
  · simp [Value.cells] at hcs
    obtain ⟨rfl, rfl, rfl⟩ := hcs
    exact ⟨hl, hm⟩
/-- What the walk is told of digests that came in. -/
def IsHs (w : World) (a : Option Addr) (len cap : Nat) (ds : List (List Nat)) : Prop := ds.length = len ∧ len ≤ cap ∧ cap ≤ maxLen ∧ HsAt w a ds ∧ Dg ds
theorem cellsHash : Tryd.prog.cellsOf 33 = 32 := by kernel_rfl
section
variable {H : Type} {enc : TypeId × Value → H} {W : World}
theorem hash_cells {n : Nat} {cs : List Value} {x : DataW H × List MemPlace} (h : DataW.trod enc Tryd.prog W 0 (fun _ => true) true n 33 cs = some x) : ∃ d : List Nat, cs = bs d ∧ d.length = 32 ∧ ∀ b ∈ d, b < 256 := by
  have A : ArrKey Tryd.prog 33 5 32 := ⟨Tryd.underlying33, by kernel_rfl, by kernel_rfl, by kernel_rfl⟩
  cases n with
  | zero => simp [DataW.trod] at h
  | succ m =>
    rw [DataW.trod_step] at h
    unfold DataW.trodStep at h
    simp only [A.hu] at h
    by_cases hlen : cs.length = Tryd.prog.cellsOf 33
    · rw [if_pos hlen] at h
      rw [cellsHash] at hlen
      simp only [Option.map_eq_some_iff] at h
      obtain ⟨ys, hy, _⟩ := h
      have hall := each_int Tryd.underlying5 _ ys hy
      have hex : ∀ i, ∃ b : Nat, i < 32 → cs[i]? = some (.int .u8 (b : Int)) ∧ b < 256 := by
        intro i
        by_cases hi : i < 32
        · obtain ⟨a, ha, wa⟩ := hall i (by simpa using hi)
          obtain ⟨b, rfl, hb⟩ := u8_of wa
          refine ⟨b, fun _ => ⟨?_, hb⟩⟩
          rw [A.one, Nat.mul_one] at ha
          have := congrArg (fun z => z[0]?) ha
          simpa [List.getElem?_take, List.getElem?_drop] using this
        · exact ⟨0, fun h => absurd h hi⟩
      obtain ⟨f, hfn⟩ := Classical.axiomOfChoice hex
      refine ⟨(List.range 32).map f, ?_, by simp, ?_⟩
      · apply List.ext_getElem?
        intro i
        by_cases hi : i < 32
        · rw [(hfn i hi).1]
          simp [bs, List.getElem?_map, List.getElem?_range hi]
        · rw [List.getElem?_eq_none (by omega), List.getElem?_eq_none (by simp [bs]; omega)]
      · intro b hb
        obtain ⟨i, hi, rfl⟩ := List.mem_map.1 hb
        exact (hfn i (by simpa using hi)).2
    · rw [if_neg hlen] at h
      cases h
theorem hashes_of {a : Option Addr} {len cap : Nat} {d : DataW H} {p : List MemPlace} (h : DataW.Trod enc Tryd.prog W 0 (fun _ => true) true 25 (.slice a len cap) d p) :
    ∃ l, IsHs W a len cap l := by
  obtain ⟨fuel, hf⟩ := h
  rcases DataW.trod_slice Tryd.underlying25 hf with ⟨e, _⟩ | ⟨x, n, c, elems, rest, m, hm, e, _, hb, hl, hcm, hel, hat, _, _⟩
  · simp [Value.cells] at e
    obtain ⟨rfl, rfl, rfl⟩ := e
    exact ⟨[], rfl, Nat.le_refl _, Nat.zero_le _, Reads.none_, by intro d hd; cases hd⟩
  · simp [Value.cells] at e
    obtain ⟨rfl, rfl, rfl⟩ := e
    have hall : ∀ j, ∃ z : List Nat, j < len → W.cells? 0 (x.add (j * 32)) 32 = some (bs z) ∧ z.length = 32 ∧ ∀ b ∈ z, b < 256 := by
      intro j
      by_cases hj : j < len
      · have h1 := hat j hj
        rw [cellsHash, List.getElem?_eq_getElem (by omega)] at h1
        obtain ⟨cs', hc, ht⟩ := Option.bind_eq_some_iff.1 h1
        obtain ⟨z, rfl, hz⟩ := hash_cells ht
        exact ⟨z, fun _ => ⟨hc, hz⟩⟩
      · exact ⟨[], fun h => absurd h hj⟩
    obtain ⟨F, hF⟩ := Classical.axiomOfChoice hall
    have hdg : Dg ((List.range len).map F) := fun z hz => by
      obtain ⟨j, hj, rfl⟩ := List.mem_map.1 hz
      exact (hF j (List.mem_range.1 hj)).2
    have hus : ∀ j, j < len → ∀ i, i < 32 → W.cell? ((x.add (j * 32)).add i) = (bs (F j))[i]? := fun j hj i hi => by
      obtain ⟨_, _, h2⟩ := World.cells?_some (hF j hj).1
      exact h2 i hi
    have hfl : (bs ((List.range len).map F).flatten).length = len * 32 := by rw [bs_length, hdg.len]; simp
    refine ⟨(List.range len).map F, by simp, hl, hcm, ⟨by rw [hfl]; simp, fun hn => ⟨x, rfl, ?_, fun j u hu => ?_⟩⟩, hdg⟩
    · simp at hn
      have h3 := hus 0 hn 0 (by omega)
      have := World.block_lt_of_cell? W _ (h3.trans (List.getElem?_eq_getElem (by rw [bs_length, (hF 0 hn).2.1]; omega)))
      rwa [block_of_add, block_of_add] at this
    · have hj : j < len * 32 := by
        have := (List.getElem?_eq_some_iff.1 hu).1
        rwa [hfl] at this
      have hk : j / 32 < len := by omega
      have hu' : ((List.range len).map F)[j / 32]? = some (F (j / 32)) := by rw [List.getElem?_map, List.getElem?_range hk]; rfl
      have h5 := hdg.at_ hu' (j := j % 32) (by omega)
      rw [show j / 32 * 32 + j % 32 = j by omega] at h5
      have h6 := hus (j / 32) hk (j % 32) (by omega)
      rw [Go.Deep.add_add, show j / 32 * 32 + j % 32 = j by omega] at h6
      rw [h6, ← hu]
      unfold bs
      rw [List.getElem?_map, List.getElem?_map, h5]
end
end Go.Proofs.YtfpbijnlmlaloaaDoor
