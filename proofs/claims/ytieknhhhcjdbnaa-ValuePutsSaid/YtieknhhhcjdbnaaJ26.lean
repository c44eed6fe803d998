/- Texts joined: Opened Yields. -/
import Derived.Test.YtieknhhhcjdbnaaJ18
import Derived.Deep.RegionWith
import Derived.BigGuard
import Derived.Lib.QuietBelow
/- What a function answers that hands out new bytes, opened; what reads goes on reading. -/
namespace Go.Proofs.Ytieknhhhcjdbnaa
open Go.RowKit
set_option linter.unusedVariables false
set_option linter.unusedSimpArgs false
set_option maxRecDepth 100000

theorem New.opened {w w' : World} {xs : List Value} {n : Nat} {e : Ending} (h : New w xs n e w') : ∃ A c, e = .returned (.slice A n c) ∧ n ≤ c ∧ Reads w' w'.heap.size 1 A n xs ∧ Below w.heap.size w w' := by
  obtain ⟨v, rfl, hown, hb⟩ := h
  obtain ⟨A, c, rfl, hc, _, hr⟩ := own_slice hown
  exact ⟨A, c, rfl, hc, hr, hb⟩
theorem Reads.next {w w' : World} {size n : Nat} {A : Option Addr} {xs : List Value} (h : Reads w w.heap.size size A n xs) (hb : Below w.heap.size w w') : Reads w' w'.heap.size size A n xs :=
  (h.below hb).more hb.size
end Go.Proofs.Ytieknhhhcjdbnaa

/- What a call answers wherever what stood below stands: for a drawn region with calls that make memory, in one walk. No condition. -/
namespace Go.Proofs.Ytieknhhhcjdbnaa
open Go.RowKit
set_option linter.unusedVariables false
set_option linter.unusedSimpArgs false
set_option maxRecDepth 100000

/-- What a call answers wherever what stood below stands, and that it leaves that. -/
def Yields (B : Nat) (w : World) (f : FuncId) (args : Array Value) (v : Value) : Prop :=
  ∀ W, Below B w W → Calls Try.prog f args W fun e w' => e = .returned v ∧ Below B w w'
theorem below_drew {B : Nat} {w W : World} (h : Below B w W) : Below B w W.drew := ⟨h.os, h.tape, h.output, h.size, h.block⟩
theorem Yields.quiet {w : World} {f : FuncId} {args : Array Value} {v : Value} (h : Yields w.heap.size w f args v) (d : Nat) (os : Array Obj) :
    Calls Try.prog f args (Go.Sort.grow (redrawn w d) os) fun e w'' => e = .returned v ∧ ∃ p : Regrown, w'' = Go.Sort.grow (redrawn w p.d) p.os :=
  (h _ (below_regrown w d os)).mono fun _ _ ⟨he, hb⟩ => ⟨he, regrown_of_below hb⟩
end Go.Proofs.Ytieknhhhcjdbnaa
