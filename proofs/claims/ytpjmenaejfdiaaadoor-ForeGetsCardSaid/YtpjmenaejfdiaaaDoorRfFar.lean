/- The document's reader stands while a row of the call's own, behind it, grows; a new one. -/
import Derived.Test.YtpjmenaejfdiaaaDoorRefRd
namespace Go.Proofs.YtpjmenaejfdiaaaDoor
open Go.RowKit
set_option linter.unusedVariables false
set_option linter.unusedSimpArgs false
set_option maxRecDepth 100000

theorem RfS.grown {w w' : World} {g : Nat} {l : List Nat} {at_ : Nat} {x : Option (Int × Nat)} (h : RfS w g l at_ x) {row : Option Nat} (hg : w.grownBy w' row) (hr : ∀ q, row = some q → g < q) : RfS w' g l at_ x := by
  obtain ⟨⟨A, n, c, hR⟩, hX⟩ := h
  have hlt := hR.blk.lt
  exact ⟨⟨A, n, c, hR.blk.grown hg (fun e => by have := hr g e.symm; omega), hR.reads.grown hg (Nat.le_of_lt hlt) (fun q hq => Nat.le_of_lt (hr q hq)), hR.cap, hR.place, hR.size, hR.byte⟩, hX⟩
theorem RfS.alloc {w : World} {g : Nat} {l : List Nat} {at_ : Nat} {x : Option (Int × Nat)} (h : RfS w g l at_ x) (o : Obj) : RfS (w.alloc o) g l at_ x :=
  h.next ((Below.refl _ _).alloc (Nat.le_refl _) _)
theorem rf_new {w : World} {A : Option Addr} {n c : Nat} {l : List Nat} (hr : Reads w w.heap.size 1 A n (bs l)) (hc : n ≤ c) (hn : n ≤ 140737488355328) (hb : ∀ b ∈ l, b < 256) :
    RfS (w.alloc (.cells #[.slice A n c, .int .i64 0, .int .i64 0, .int .i64 0] 47)) w.heap.size l 0 none :=
  ⟨⟨A, n, c, ⟨Blk.new w _ _, hr.alloc (Nat.le_refl _) _, hc, Nat.zero_le _, hn, hb⟩⟩, fun y h => by cases h⟩
/-- The error's number as the reader's cell has it. -/
theorem RfS.cellE {w : World} {g : Nat} {l : List Nat} {at_ : Nat} {x : Option (Int × Nat)} (h : RfS w g l at_ x) : w.cell? ⟨g, 2, none⟩ = some (.int .i64 (errS x).1) := by
  obtain ⟨⟨A, n, c, hR⟩, _⟩ := h
  rw [hR.blk.cell]; rfl
theorem RfS.cell1 {w : World} {g : Nat} {l : List Nat} {at_ : Nat} {x : Option (Int × Nat)} (h : RfS w g l at_ x) : w.cell? ⟨g, 1, none⟩ = some (.int .i64 (at_ : Int)) := by
  obtain ⟨⟨A, n, c, hR⟩, _⟩ := h
  rw [hR.blk.cell]; rfl
end Go.Proofs.YtpjmenaejfdiaaaDoor
