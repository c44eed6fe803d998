/- For the statement NumReads: the two readers keep each other's state. -/
import Derived.Test.YtieknhhhcjdbnaaDoorRefFix
import Derived.Test.YtieknhhhcjdbnaaDoorRefBlob
import Derived.Test.YtieknhhhcjdbnaaDoorJ20
namespace Go.Proofs.YtieknhhhcjdbnaaDoor
open Go.RowKit
set_option linter.unusedVariables false
set_option linter.unusedSimpArgs false
set_option maxRecDepth 100000

theorem reads_far {w w' : World} {B g n : Nat} {A : Option Addr} {l : List Nat} {t : TypeId} {cs : Array Value} (h : Reads w B 1 A n (bs l)) (hB : B ≤ w.heap.size) (hg : w.grownBy w' (some g)) (hblk : Blk w g t cs) (hno : ∀ (i : Nat) (b : Int), cs[i]? ≠ some (Value.int .u8 b)) : Reads w' B 1 A n (bs l) := by
  refine ⟨h.1, fun hn => ?_⟩
  obtain ⟨b, off, rfl, hlt, hc⟩ := h.plain hn
  refine ⟨_, rfl, hlt, fun j u hu => ?_⟩
  rw [plain_add]
  have hcell := hc j u hu
  refine hg.cell hcell ?_
  intro he
  injection he with he
  obtain ⟨x, _, rfl⟩ := bs_at hu
  have e : b = g := he
  subst e
  rw [hblk.cell] at hcell
  exact hno _ _ hcell
theorem RfS.far {w w' : World} {g g' : Nat} {l l' : List Nat} {at_ at' : Nat} {x x' : Option (Int × Nat)} (h : RfS w g l at_ x) (h' : RdS w g' l' at' x') (hg : w.grownBy w' (some g')) : RfS w' g l at_ x := by
  obtain ⟨⟨A, n, c, hR⟩, hX⟩ := h
  obtain ⟨A', n', c', err, hR', hE⟩ := h'
  refine ⟨⟨A, n, c, hR.blk.grown hg ?_, reads_far hR.reads (Nat.le_of_lt hR.blk.lt) hg hR'.blk ?_, hR.cap, hR.place, hR.size, hR.byte⟩, hX⟩
  · intro e; injection e with e; exact hR.blk.type_ne hR'.blk (by decide) e
  · have he : ∀ b, err ≠ Value.int .u8 b := by
      intro b e
      cases x' with
      | none => rw [hE] at e; cases e
      | some x' => obtain ⟨f, e2, _⟩ := hE; rw [e2] at e; cases e
    intro i b
    rcases i with _ | _ | _ | i
    · simp
    · simp
    · simpa using he b
    · simp
theorem RdS.far {w w' : World} {g g' : Nat} {l l' : List Nat} {at_ at' : Nat} {x x' : Option (Int × Nat)} (h : RdS w g l at_ x) (h' : RfS w g' l' at' x') (hg : w.grownBy w' (some g')) : RdS w' g l at_ x := by
  obtain ⟨A, n, c, err, hR, hE⟩ := h
  obtain ⟨⟨A', n', c', hR'⟩, _⟩ := h'
  refine ⟨A, n, c, err, ⟨hR.blk.grown hg ?_, reads_far hR.reads (Nat.le_of_lt hR.blk.lt) hg hR'.blk ?_, hR.cap, hR.place, hR.size, hR.byte⟩, hE.next fun f t cs hf ht => hf.grown hg ?_⟩
  · intro e; injection e with e; exact hR.blk.type_ne hR'.blk (by decide) e
  · intro i b
    rcases i with _ | _ | _ | _ | i <;> simp
  · intro e; injection e with e; exact hf.type_ne hR'.blk (by rw [ht]; decide) e
end Go.Proofs.YtieknhhhcjdbnaaDoor
