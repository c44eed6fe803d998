/- Texts joined: Fill TrFill MakeU8. -/
import Derived.Test.YtfpbijnlmlaloaaDoorWords
import Derived.Test.YtfpbijnlmlaloaaDoorJ9
import Derived.Test.YtfpbijnlmlaloaaDoorJ11
import Derived.Laws.MakeOwn
import Derived.Test.YtfpbijnlmlaloaaDoorJ2
/- A row that is filled in order: so many places are filled, the others are zero. No program. -/
namespace Go.Proofs.YtfpbijnlmlaloaaDoor
open Go.RowKit
set_option linter.unusedVariables false
set_option linter.unusedSimpArgs false
set_option maxRecDepth 100000

/-- A row of which 'k' are filled. -/
def fillW (xs : List Value) (z : Value) (k : Nat) : Array Value := (xs.take k ++ List.replicate (xs.length - k) z).toArray
theorem fillW_zero (xs : List Value) (z : Value) (n : Nat) (h : xs.length = n) : fillW xs z 0 = madeCells #[z] n := by
  apply Array.ext'
  rw [toList_madeCells_one]
  simp [fillW, h]
theorem fillW_all (xs : List Value) (z : Value) (n : Nat) (h : xs.length = n) : fillW xs z n = xs.toArray := by
  unfold fillW
  rw [List.take_of_length_le (by omega), h, Nat.sub_self]
  simp
theorem fillW_old (xs : List Value) (z : Value) (k : Nat) (h : k < xs.length) : (fillW xs z k)[k]? = some z := by
  unfold fillW
  rw [List.getElem?_toArray, List.getElem?_append_right (by rw [List.length_take]; omega), List.getElem?_replicate, if_pos (by rw [List.length_take]; omega)]
theorem fillW_next (xs : List Value) (z : Value) (k : Nat) (v : Value) (h : xs[k]? = some v) : (fillW xs z k).setIfInBounds k v = fillW xs z (k + 1) := by
  have hk : k < xs.length := (List.getElem?_eq_some_iff.1 h).1
  unfold fillW
  rw [List.setIfInBounds_toArray]
  congr 1
  apply List.ext_getElem?
  intro i
  rw [List.getElem?_set]
  by_cases hi : k = i
  · subst hi
    rw [if_pos rfl, if_pos (by simp; omega), List.getElem?_append_left (by simp; omega), List.getElem?_take, if_pos (by omega), h]
  · rw [if_neg hi]
    by_cases h2 : i < k
    · rw [List.getElem?_append_left (by simp; omega), List.getElem?_append_left (by simp; omega), List.getElem?_take, List.getElem?_take, if_pos h2, if_pos (by omega)]
    · rw [List.getElem?_append_right (by simp; omega), List.getElem?_append_right (by simp; omega), List.getElem?_replicate, List.getElem?_replicate]
      simp only [List.length_take]
      by_cases h3 : i < xs.length
      · rw [if_pos (by omega), if_pos (by omega)]
      · rw [if_neg (by omega), if_neg (by omega)]
/-- A block that is just the row is the call's own. -/
theorem own_whole {w : World} {B h n : Nat} {t : TypeId} {xs : List Value} (hb : Blk w h t xs.toArray) (hB : B ≤ h) (hn : xs.length = n) (hm : n ≤ maxLen) :
    w.ownsRow B t 1 (.slice (some ⟨h, 0, none⟩) n n) n xs :=
  ⟨by omega, .inr ⟨h, n, xs.toArray, rfl, hB, hb, Nat.le_refl _, hm, by simp; omega, by simp; rw [List.take_of_length_le (by omega)]⟩⟩
end Go.Proofs.YtfpbijnlmlaloaaDoor

/- A row of digests that is made and filled in order. No condition. -/
namespace Go.Proofs.YtfpbijnlmlaloaaDoor
open Go.RowKit
set_option linter.unusedVariables false
set_option linter.unusedSimpArgs false
set_option maxRecDepth 100000

theorem info_hashB : (Tryd.prog.info? 33).map (fun i => (i.zero, i.size, i.bytes)) = some (some (.agg (Array.replicate 32 (.int .u8 0))), 32, 32) := by kernel_rfl
theorem made_rep (z : Value) (m n : Nat) (h : 0 < m) : madeCells (Array.replicate m z) n = Array.replicate n z := by
  apply Array.ext
  · rw [size_madeCells]; simp
  · intro i h1 h2
    have hm : i % m < m := Nat.mod_lt _ h
    simp only [madeCells, Array.getElem_map, Array.size_replicate, Array.getElem_replicate, Array.getElem_range]
    rw [getElem!_pos _ _ (by simpa using hm)]
    simp
theorem fillW_none (xs : List Value) (z : Value) : fillW xs z 0 = Array.replicate xs.length z := by
  apply Array.ext'
  simp [fillW]
theorem only_setCells {a : World} {g : Nat} : ∀ (vs : List Value) (o : Nat) {w : World}, a.grownBy w (some g) → a.grownBy (w.setCells g o vs) (some g)
  | [], _, _, h => h
  | v :: r, o, w, h => by
    rw [World.setCells]
    exact only_setCells r (o + 1) (only_setCell h (.inl rfl) v)
/-- The next cells are stored. -/
theorem trFill {g : Nat} {t : TypeId} {xs : List Value} {z : Value} : ∀ (vs : List Value) (k : Nat) {w : World}, Blk w g t (fillW xs z k) → (∀ j v, vs[j]? = some v → xs[k + j]? = some v) → Blk (w.setCells g k vs) g t (fillW xs z (k + vs.length))
  | [], _, _, h, _ => h
  | v :: r, k, w, h, hv => by
    rw [World.setCells, List.length_cons, show k + (r.length + 1) = k + 1 + r.length by omega]
    refine trFill r (k + 1) ?_ fun j u hu => ?_
    · have := h.set_ k v
      rwa [fillW_next xs z k v (hv 0 v rfl)] at this
    · have := hv (j + 1) u (by simpa using hu)
      rwa [show k + (j + 1) = k + 1 + j by omega] at this
theorem Blk.there {w : World} {g : Nat} {t : TypeId} {cs : Array Value} (h : Blk w g t cs) {o n : Nat} (hn : o + n ≤ cs.size) : w.there g o n := fun j hj => by
  refine ⟨?_, h.frozen _⟩
  rw [h.cell, Array.getElem?_eq_getElem (by omega)]
  rfl
end Go.Proofs.YtfpbijnlmlaloaaDoor

/- A byte slice that is made. No condition. -/
namespace Go.Proofs.YtfpbijnlmlaloaaDoor
open Go.RowKit
set_option linter.unusedVariables false
set_option linter.unusedSimpArgs false
set_option maxRecDepth 100000

theorem run_make_u8 (c : Nat) (hc : c ≤ 281474976710656) (w : World) :
    (Instr.makeSlice 36 (.int .i64 0) (.int .i64 (c : Int))).run Tryd.prog w = .ok (.slice (some ⟨w.heap.size, 0, none⟩) 0 c) (w.alloc (.cells (madeCells #[.int .u8 0] c) 5)) := by
  obtain ⟨i, hi, hz0, hz1, hz2⟩ := info_parts info_u8
  have hr := run_make (P := Tryd.prog) w 36 5 i _ Tryd.underlying36 hi hz0 .i64 .i64 0 c (by omega) (by omega) (by rw [hz2]; omega) (by omega)
  rw [hz1] at hr
  simpa [Value.cells] using hr
end Go.Proofs.YtfpbijnlmlaloaaDoor
