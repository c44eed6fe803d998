/- A row of digests that is made and filled in order. No condition. -/
import Derived.Test.YtkopoepoinkpeaaDoorTrMem
import Derived.Test.YtkopoepoinkpeaaDoorFill
import Derived.Test.YtkopoepoinkpeaaDoorShaInfo
import Derived.Laws.MakeOwn
namespace Go.Proofs.YtkopoepoinkpeaaDoor
open Go.RowKit
set_option linter.unusedVariables false
set_option linter.unusedSimpArgs false
set_option maxRecDepth 100000

theorem info_hashB : (Tryd.prog.info? 31).map (fun i => (i.zero, i.size, i.bytes)) = some (some (.agg (Array.replicate 32 (.int .u8 0))), 32, 32) := by kernel_rfl
theorem made_rep (z : Value) (m n : Nat) (h : 0 < m) : madeCells (Array.replicate m z) n = Array.replicate n z := by
  apply Array.ext
  · rw [size_madeCells]; simp
  · intro i h1 h2
    have hm : i % m < m := Nat.mod_lt _ h
    simp only [madeCells, Array.getElem_map, Array.size_replicate, Array.getElem_replicate, Array.getElem_range]
    rw [getElem!_pos _ _ (by simpa using hm)]
    simp
theorem fillW_none (xs : List Value) (z : Value) : fillW xs z 0 = Array.replicate xs.length z := by
  apply Array.ext'
  simp [fillW]
theorem only_setCells {a : World} {g : Nat} : ∀ (vs : List Value) (o : Nat) {w : World}, a.grownBy w (some g) → a.grownBy (w.setCells g o vs) (some g)
  | [], _, _, h => h
  | v :: r, o, w, h => by
    rw [World.setCells]
    exact only_setCells r (o + 1) (only_setCell h (.inl rfl) v)
/-- The next cells are stored. -/
theorem trFill {g : Nat} {t : TypeId} {xs : List Value} {z : Value} : ∀ (vs : List Value) (k : Nat) {w : World}, Blk w g t (fillW xs z k) → (∀ j v, vs[j]? = some v → xs[k + j]? = some v) → Blk (w.setCells g k vs) g t (fillW xs z (k + vs.length))
  | [], _, _, h, _ => h
  | v :: r, k, w, h, hv => by
    rw [World.setCells, List.length_cons, show k + (r.length + 1) = k + 1 + r.length by omega]
    refine trFill r (k + 1) ?_ fun j u hu => ?_
    · have := h.set_ k v
      rwa [fillW_next xs z k v (hv 0 v rfl)] at this
    · have := hv (j + 1) u (by simpa using hu)
      rwa [show k + (j + 1) = k + 1 + j by omega] at this
theorem Blk.there {w : World} {g : Nat} {t : TypeId} {cs : Array Value} (h : Blk w g t cs) {o n : Nat} (hn : o + n ≤ cs.size) : w.there g o n := fun j hj => by
  refine ⟨?_, h.frozen _⟩
  rw [h.cell, Array.getElem?_eq_getElem (by omega)]
  rfl
end Go.Proofs.YtkopoepoinkpeaaDoor
