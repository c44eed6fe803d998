/- A value that came in by value, opened. No condition. -/
import Derived.Lib.SmallJoins
import Derived.Test.YtieknhhhcjdbnaaJ18
import Derived.Test.YtieknhhhcjdbnaaVals
namespace Go.Proofs.Ytieknhhhcjdbnaa
open Go.ChangeShapes Go.WideShapes Go.RowKit
set_option linter.unusedVariables false
set_option linter.unusedSimpArgs false
set_option maxRecDepth 100000

/-- What the walk is told of a value that came in. -/
def IsVal (l : Int × Int × Tx) : Prop := In64 l.1 ∧ In64 l.2.1
theorem val_of {H : Type} {enc : TypeId × Value → H} {W : World} {r : Reach} {base : Nat} {v : Value} {d : DataW H} {p : List MemPlace} (hv : Value.okWide Try.prog W r base 23 v) (h : DataW.Trod enc Try.prog W 0 (fun _ => true) true 23 v d p) :
    ∃ l, v = vW l ∧ IsVal l := by
  obtain ⟨v0, v1, v2, y0, y1, y2, n, rfl, _, _, t0, t1, t2⟩ := Go.Joins.open_agg3 Try.underlying23 (by kernel_rfl) (by kernel_rfl) hv h
  obtain ⟨k, e0, _, wk⟩ := DataW.trod_int Try.underlying3 t0
  obtain ⟨s, e1, _, ws⟩ := DataW.trod_int Try.underlying2 t1
  obtain ⟨b, e2, _⟩ := DataW.trod_string Try.underlying9 t2
  injection e0 with e0
  injection e1 with e1
  injection e2 with e2
  subst e0 e1 e2
  have hk : In64 k := by have := i64_of wk; unfold In64; omega
  have hs : In64 s := by have := i64_of ws; unfold In64; omega
  obtain ⟨⟨z⟩⟩ := b
  exact ⟨(k, s, z), by simp [vW], hk, hs⟩
end Go.Proofs.Ytieknhhhcjdbnaa
