/- While the document's May of layer 17 puts parts together: its blocks. No condition. -/
import Derived.Test.YtmjpjllbfgkfbaaDoorZnMayK
import Derived.Test.YtmjpjllbfgkfbaaDoorJ3
namespace Go.Proofs.YtmjpjllbfgkfbaaDoor
open Go.RowKit
set_option linter.unusedVariables false
set_option linter.unusedSimpArgs false
set_option maxRecDepth 100000

theorem put3_none (t : Tr3) (k : Nat) : put3 t false k = t := by obtain ⟨a, b, c⟩ := t; simp [put3]
/-- Three truths as cells. -/
def cs3 (t : Tr3) : Array Value := #[.bool t.1, .bool t.2.1, .bool t.2.2]
theorem cs3_at (t : Tr3) {k : Nat} (hk : k < 3) : (cs3 t)[k]? = some (.bool (at3 t k)) := by
  have h : k = 0 ∨ k = 1 ∨ k = 2 := by omega
  rcases h with rfl | rfl | rfl <;> rfl
theorem cs3_put (t : Tr3) {k : Nat} (hk : k < 3) : (cs3 t).setIfInBounds k (.bool true) = cs3 (put3 t true k) := by
  obtain ⟨a, b, c⟩ := t
  have h : k = 0 ∨ k = 1 ∨ k = 2 := by omega
  rcases h with rfl | rfl | rfl <;> simp [cs3, put3]
/-- Between parts: the predicate's box, the answer's, the truths so far. -/
structure JL (w : World) (g3 g6 g10 : Nat) (pc : Array Value) (o : Tr3) (wr : World) : Prop where
  b : Below w.heap.size w wr
  kp : Blk wr g3 26 pc
  kr : Blk wr g6 56 #[.bool false, .bool false, .bool false]
  ko : Blk wr g10 56 (cs3 o)
/-- While choices are gone through. -/
structure JR (w : World) (g3 g6 g10 g12 g13 : Nat) (pc : Array Value) (o x t : Tr3) (wr : World) : Prop where
  l : JL w g3 g6 g10 pc o wr
  kx : Blk wr g12 56 (cs3 x)
  kt : Blk wr g13 56 (cs3 t)
section
variable {w wr W : World} {g3 g6 g10 g12 g13 : Nat} {pc : Array Value} {o x t : Tr3}
theorem JL.next (h : JL w g3 g6 g10 pc o wr) (hb : Below wr.heap.size wr W) : JL w g3 g6 g10 pc o W := ⟨h.b.trans (hb.mono h.b.size), h.kp.below hb h.kp.lt, h.kr.below hb h.kr.lt, h.ko.below hb h.ko.lt⟩
theorem JL.far (h : JL w g3 g6 g10 pc o wr) {p : Addr} (h0 : w.heap.size ≤ p.block) (h1 : g3 ≠ p.block) (h2 : g6 ≠ p.block) (h3 : g10 ≠ p.block) (u : Value) : JL w g3 g6 g10 pc o (wr.setCell p u) := ⟨h.b.setCell h0 u, h.kp.far h1 u, h.kr.far h2 u, h.ko.far h3 u⟩
theorem JR.put (h : JR w g3 g6 g10 g12 g13 pc o x t wr) (hw : w.heap.size ≤ g13) (h1 : g3 < g13) (h2 : g6 < g13) (h3 : g10 < g13) (h4 : g12 < g13) {k : Nat} (hk : k < 3) : JR w g3 g6 g10 g12 g13 pc o x (put3 t true k) (wr.setCell ⟨g13, k, none⟩ (.bool true)) := by
  refine ⟨h.l.far (p := ⟨g13, k, none⟩) hw (by show g3 ≠ g13; omega) (by show g6 ≠ g13; omega) (by show g10 ≠ g13; omega) _, h.kx.far (p := ⟨g13, k, none⟩) (by show g12 ≠ g13; omega) _, ?_⟩
  have h5 := h.kt.set_ k (.bool true)
  rw [cs3_put t hk] at h5
  exact h5
end
end Go.Proofs.YtmjpjllbfgkfbaaDoor
