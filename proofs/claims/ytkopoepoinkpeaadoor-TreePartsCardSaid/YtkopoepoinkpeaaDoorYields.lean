/- What a call answers wherever what stood below stands: for a drawn region with calls that make memory, in one walk. No condition. -/
import Derived.Deep.RegionWith
import Derived.BigGuard
import Derived.Lib.QuietBelow
import Derived.Test.YtkopoepoinkpeaaDoorMem
import Derived.Test.YtkopoepoinkpeaaDoorOpened
namespace Go.Proofs.YtkopoepoinkpeaaDoor
open Go.RowKit
set_option linter.unusedVariables false
set_option linter.unusedSimpArgs false
set_option maxRecDepth 100000

/-- What a call answers wherever what stood below stands, and that it leaves that. -/
def Yields (B : Nat) (w : World) (f : FuncId) (args : Array Value) (v : Value) : Prop :=
  ∀ W, Below B w W → Calls Tryd.prog f args W fun e w' => e = .returned v ∧ Below B w w'
theorem below_drew {B : Nat} {w W : World} (h : Below B w W) : Below B w W.drew := ⟨h.os, h.tape, h.output, h.size, h.block⟩
theorem Yields.quiet {w : World} {f : FuncId} {args : Array Value} {v : Value} (h : Yields w.heap.size w f args v) (d : Nat) (os : Array Obj) :
    Calls Tryd.prog f args (Go.Sort.grow (redrawn w d) os) fun e w'' => e = .returned v ∧ ∃ p : Regrown, w'' = Go.Sort.grow (redrawn w p.d) p.os :=
  (h _ (below_regrown w d os)).mono fun _ _ ⟨he, hb⟩ => ⟨he, regrown_of_below hb⟩
end Go.Proofs.YtkopoepoinkpeaaDoor
