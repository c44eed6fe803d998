/- Lists of byte texts in memory: a slice of slices; append of one onto a row of the call's own. -/
import Derived.Test.YtkopoepoinkpeaaDoorJ2
import Derived.Test.YtkopoepoinkpeaaDoorJ8
namespace Go.Proofs.YtkopoepoinkpeaaDoor
open Go.RowKit
set_option linter.unusedVariables false
set_option linter.unusedSimpArgs false
set_option maxRecDepth 100000

/-- A slice that reads as bytes, off the block 'own'. -/
def Off (w : World) (own : Option Nat) (v : Value) (l : List Nat) : Prop :=
  ∃ A c, v = .slice A l.length c ∧ Reads w w.heap.size 1 A l.length (bs l) ∧ (0 < l.length → ∀ ad, A = some ad → some ad.block ≠ own)
/-- A slice that reads as bytes. -/
def IsB (w : World) (v : Value) (l : List Nat) : Prop := ∃ A c, v = .slice A l.length c ∧ Reads w w.heap.size 1 A l.length (bs l)
theorem Off.isB {w : World} {own : Option Nat} {v : Value} {l : List Nat} (h : Off w own v l) : IsB w v l := by
  obtain ⟨A, c, e, hr, _⟩ := h
  exact ⟨A, c, e, hr⟩
theorem IsB.off {w : World} {v : Value} {l : List Nat} (h : IsB w v l) (own : Option Nat) (ho : ∀ g, own = some g → w.heap.size ≤ g) : Off w own v l := by
  obtain ⟨A, c, e, hr⟩ := h
  refine ⟨A, c, e, hr, fun hn ad had heq => ?_⟩
  obtain ⟨ad', h1, h2, _⟩ := hr.2 hn
  rw [had] at h1
  injection h1 with h1
  subst h1
  have := ho _ heq.symm
  omega
theorem IsB.one {w : World} {v : Value} {l : List Nat} (h : IsB w v l) : v.oneCell' = true := by
  obtain ⟨A, c, rfl, _⟩ := h; rfl
theorem Off.one {w : World} {own : Option Nat} {v : Value} {l : List Nat} (h : Off w own v l) : v.oneCell' = true := h.isB.one
theorem IsB.next {w w' : World} {v : Value} {l : List Nat} (h : IsB w v l) (hb : Below w.heap.size w w') : IsB w' v l := by
  obtain ⟨A, c, e, hr⟩ := h
  exact ⟨A, c, e, (hr.below hb).more hb.size⟩
theorem Off.next {w w' : World} {own : Option Nat} {v : Value} {l : List Nat} (h : Off w own v l) (hb : Below w.heap.size w w') : Off w' own v l := by
  obtain ⟨A, c, e, hr, ho⟩ := h
  exact ⟨A, c, e, (hr.below hb).more hb.size, ho⟩
/-- A row of the call's own grows, in place or in a new block: what lies off it stands, and lies off it still. -/
theorem Off.grown {w w' : World} {own own' : Option Nat} {v : Value} {l : List Nat} (h : Off w own v l) (hg : w.grownBy w' own) (ho' : own' = own ∨ own' = some w.heap.size) : Off w' own' v l := by
  obtain ⟨A, c, e, hr, ho⟩ := h
  refine ⟨A, c, e, ⟨hr.1, fun hn => ?_⟩, fun hn ad had => ?_⟩
  · obtain ⟨ad, had, hlt, hc⟩ := hr.2 hn
    refine ⟨ad, had, Nat.lt_of_lt_of_le hlt hg.size, fun j u hu => hg.cell (hc j u hu) ?_⟩
    rw [block_of_add]
    exact ho hn ad had
  · rcases ho' with rfl | rfl
    · exact ho hn ad had
    · obtain ⟨ad', had', hlt, _⟩ := hr.2 hn
      rw [had] at had'
      injection had' with had'
      subst had'
      intro h
      injection h with h
      omega
/-- A list of byte texts: a slice of slices. -/
def LL (w : World) (A : Option Addr) (ls : List (List Nat)) : Prop := ∃ vs, Reads w w.heap.size 1 A ls.length vs ∧ Each (IsB w) vs ls
theorem LL.next {w w' : World} {A : Option Addr} {ls : List (List Nat)} (h : LL w A ls) (hb : Below w.heap.size w w') : LL w' A ls := by
  obtain ⟨vs, hr, he⟩ := h
  exact ⟨vs, (hr.below hb).more hb.size, he.imp fun v l hv => hv.next hb⟩
theorem LL.none_ {w : World} : LL w none [] := ⟨[], Reads.none_, trivial⟩

theorem info_bytes : (Tryd.prog.info? 37).map (fun i => (i.zero, i.size, i.bytes)) = some (some (.slice none 0 0), 1, 24) := by kernel_rfl
end Go.Proofs.YtkopoepoinkpeaaDoor
