/- What a call answers wherever what stood below stands: for a drawn region with calls that make memory, in one walk; a part of bytes, cut at a place. No condition. -/
import Derived.Deep.RegionWith
import Derived.BigGuard
import Derived.Lib.QuietBelow
import Derived.Test.YtieknhhhcjdbnaaSame
import Derived.Test.YtieknhhhcjdbnaaOpened
namespace Go.Proofs.Ytieknhhhcjdbnaa
open Go.RowKit
set_option linter.unusedVariables false
set_option linter.unusedSimpArgs false
set_option maxRecDepth 100000

/-- What a call answers wherever what stood below stands, and that it leaves that. -/
def Yields (B : Nat) (w : World) (f : FuncId) (args : Array Value) (v : Value) : Prop :=
  ∀ W, Below B w W → Calls Try.prog f args W fun e w' => e = .returned v ∧ Below B w w'
theorem below_drew {B : Nat} {w W : World} (h : Below B w W) : Below B w W.drew := ⟨h.os, h.tape, h.output, h.size, h.block⟩
theorem Yields.quiet {w : World} {f : FuncId} {args : Array Value} {v : Value} (h : Yields w.heap.size w f args v) (d : Nat) (os : Array Obj) :
    Calls Try.prog f args (Go.Sort.grow (redrawn w d) os) fun e w'' => e = .returned v ∧ ∃ p : Regrown, w'' = Go.Sort.grow (redrawn w p.d) p.os :=
  (h _ (below_regrown w d os)).mono fun _ _ ⟨he, hb⟩ => ⟨he, regrown_of_below hb⟩
theorem same_yields (A A' : Option Addr) (n c c' : Nat) (l : List Nat) (w : World) (h1 : Reads w w.heap.size 1 A n (bs l)) (h2 : Reads w w.heap.size 1 A' n (bs l)) (hn : n ≤ 140737488355328) :
    Yields w.heap.size w 16 #[.slice A n c, .slice A' n c'] (.bool true) := by
  intro W hb
  refine (same_true A A' n c n c' l W (h1.next hb) (h2.next hb) hn).mono ?_
  rintro e w1 ⟨rfl, hd⟩
  exact ⟨rfl, hd.below hb⟩
theorem cutB {w : World} {A : Option Addr} {n c k m : Nat} {l t : List Nat} (h : Reads w w.heap.size 1 A n (bs l)) (hk : k ≤ n) (hc : n ≤ c) (ht : l.drop k = t) (hm : n - k = m) : Reads w w.heap.size 1 (if c = k then A else Option.map (fun x => x.add k) A) m (bs t) := by
  have := h.cut (k := k) (cap := c) hk hc
  simp only [Nat.mul_one] at this
  rwa [bs_drop, ht, hm] at this
end Go.Proofs.Ytieknhhhcjdbnaa
