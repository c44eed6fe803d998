/- Words for DiskSync: rows that stand while a disk changes, and while another row grows. -/
import Derived.Test.YthgopedojgbaoaaSyncPlain
import Derived.Test.YthgopedojgbaoaaDkAwake2
import Derived.Test.YthgopedojgbaoaaLists
namespace Go.Proofs.Ythgopedojgbaoaa
open Go.RowKit Go.Maps Go.WideMaps Go.ChangeMaps
set_option linter.unusedVariables false
set_option linter.unusedSimpArgs false
set_option maxRecDepth 100000

section
variable {w w1 : World} {X X1 : Nat → Prop} {own own' : Option Nat} {A : Option Addr} {n : Nat} {xs : List Value} {v : Value} {l : List Nat} {d : Nat} {S : St}
/-- A row that reads so, off the disk and off the block 'own'. -/
def Kept (w : World) (X : Nat → Prop) (own : Option Nat) (A : Option Addr) (n : Nat) (xs : List Value) : Prop :=
  Reads w w.heap.size 1 A n xs ∧ (0 < n → ∀ ad, A = some ad → some ad.block ≠ own ∧ ¬ X ad.block)
theorem Kept.step (h : Kept w X own A n xs) (hs : Step w X w1 X1) : Kept w1 X1 own A n xs := by
  refine ⟨(Reads.cells h.1 fun hn ad j e hb => hs.cell (by rw [block_of_add]; exact hb) (by rw [block_of_add]; exact (h.2 hn ad e).2)).more hs.size, fun hn ad e => ⟨(h.2 hn ad e).1, fun hX => ?_⟩⟩
  rcases hs.new _ hX with h1 | h1
  · exact (h.2 hn ad e).2 h1
  · obtain ⟨ad', e', hb, _⟩ := h.1.2 hn
    rw [e] at e'
    cases e'
    omega
theorem Kept.below (h : Kept w X own A n xs) (hb : Below w.heap.size w w1) : Kept w1 X own A n xs := ⟨(h.1.below hb).more hb.size, h.2⟩
theorem Kept.grown (h : Kept w X own A n xs) (hg : w.grownBy w1 own) (ho : own' = own ∨ own' = some w.heap.size) : Kept w1 X own' A n xs := by
  refine ⟨⟨h.1.1, fun hn => ?_⟩, fun hn ad e => ⟨?_, (h.2 hn ad e).2⟩⟩
  · obtain ⟨ad, e, hlt, hc⟩ := h.1.2 hn
    refine ⟨ad, e, Nat.lt_of_lt_of_le hlt hg.size, fun j u hu => hg.cell (hc j u hu) ?_⟩
    rw [block_of_add]
    exact (h.2 hn ad e).1
  · rcases ho with rfl | rfl
    · exact (h.2 hn ad e).1
    · obtain ⟨ad', e', hlt, _⟩ := h.1.2 hn
      rw [e] at e'
      cases e'
      intro h3
      injection h3 with h3
      omega
/-- A row that has just been made. -/
theorem Kept.made {e : TypeId} {c : Nat} (h : w1.ownsRow w.heap.size e 1 (.slice A n c) n xs) (hX : ∀ i, X i → i < w.heap.size) (ho : ∀ g, own = some g → g < w.heap.size) : Kept w1 X own A n xs := by
  refine ⟨Reads.of_own h, fun hn ad e => ?_⟩
  rcases h.2 with ⟨hv, h0⟩ | ⟨g, cap, cur, hv, hg, _⟩
  · omega
  · injection hv with a1 a2 a3
    rw [e] at a1
    cases a1
    refine ⟨fun e2 => ?_, fun hx => ?_⟩
    · have := ho _ e2.symm
      simp only at this
      omega
    · have := hX _ hx
      simp only at this
      omega
def Item (w : World) (X : Nat → Prop) (own : Option Nat) (v : Value) (l : List Nat) : Prop := ∃ A c, v = .slice A l.length c ∧ Kept w X own A l.length (bs l)
theorem Item.step (h : Item w X own v l) (hs : Step w X w1 X1) : Item w1 X1 own v l := by
  obtain ⟨A, c, e, hk⟩ := h
  exact ⟨A, c, e, hk.step hs⟩
theorem Item.below (h : Item w X own v l) (hb : Below w.heap.size w w1) : Item w1 X own v l := by
  obtain ⟨A, c, e, hk⟩ := h
  exact ⟨A, c, e, hk.below hb⟩
theorem Item.grown (h : Item w X own v l) (hg : w.grownBy w1 own) (ho : own' = own ∨ own' = some w.heap.size) : Item w1 X own' v l := by
  obtain ⟨A, c, e, hk⟩ := h
  exact ⟨A, c, e, hk.grown hg ho⟩
/-- A row of slices of the law's own, apart from the disk. -/
structure SlRow (B : Nat) (w : World) (X : Nat → Prop) (v : Value) (vs : List Value) (ls : List (List Nat)) : Prop where
  own : w.ownsRow B 26 1 v ls.length vs
  off : ∀ g, v.ownBlock = some g → ¬ X g
  each : Each (Item w X v.ownBlock) vs ls
theorem SlRow.none_ (B : Nat) (w : World) (X : Nat → Prop) : SlRow B w X (.slice none 0 0) [] [] := ⟨World.ownsRow_nil _ _ _ _, (fun g e => by cases e), trivial⟩
theorem SlRow.step {B : Nat} {vs : List Value} {ls : List (List Nat)} (h : SlRow B w X v vs ls) (hs : Step w X w1 X1) : SlRow B w1 X1 v vs ls :=
  ⟨own_keep h.own (fun g e => hs.same g (h.own.lt g e).2 (h.off g e)), fun g e hx => by
    rcases hs.new g hx with h1 | h1
    · exact h.off g e h1
    · have := (h.own.lt g e).2; omega, h.each.imp fun _ _ hi => hi.step hs⟩
theorem SlRow.below {B : Nat} {vs : List Value} {ls : List (List Nat)} (h : SlRow B w X v vs ls) (hb : Below w.heap.size w w1) : SlRow B w1 X v vs ls :=
  ⟨own_below h.own hb, h.off, h.each.imp fun _ _ hi => hi.below hb⟩
theorem SlRow.app {B : Nat} {vs : List Value} {ls : List (List Nat)} {u v' : Value} (h : SlRow B w X v vs ls) (hX : ∀ i, X i → i < w.heap.size) (hu : Item w X v.ownBlock u l) (ho : w1.ownsRow B 26 1 v' (ls.length + 1) (vs ++ [u])) (hg : w.grownBy w1 v.ownBlock) (hv : v'.ownBlock = v.ownBlock ∨ v'.ownBlock = some w.heap.size) :
    SlRow B w1 X v' (vs ++ [u]) (ls ++ [l]) := by
  refine ⟨by rw [List.length_append]; exact ho, fun g e hx => ?_, (h.each.imp fun _ _ hi => hi.grown hg hv).append ⟨hu.grown hg hv, trivial⟩⟩
  rcases hv with hv | hv
  · exact h.off g (hv.symm.trans e) hx
  · rw [hv] at e
    injection e with e
    have := hX g hx
    omega
theorem Dsk.grown (h : Dsk w X d S) (hg : w.grownBy w1 own) (ho : ∀ g, own = some g → ¬ X g) : Dsk w1 X d S :=
  h.keep hg.size (fun i hi => hg.block i (h.lt i hi) (fun e => ho i e.symm hi))
theorem Dsk.below (h : Dsk w X d S) (hb : Below w.heap.size w w1) : Dsk w1 X d S := h.keep hb.size (fun i hi => hb.block i (h.lt i hi))
end
end Go.Proofs.Ythgopedojgbaoaa
