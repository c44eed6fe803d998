/- Words for DiskSure: rows of the law's own beside a disk; items of lists that came in. -/
import Derived.Test.YthgopedojgbaoaaSurePlain
import Derived.Test.YthgopedojgbaoaaDkAwake2
import Derived.Test.YthgopedojgbaoaaLists
namespace Go.Proofs.Ythgopedojgbaoaa
open Go.RowKit Go.Maps Go.WideMaps Go.ChangeMaps
set_option linter.unusedVariables false
set_option linter.unusedSimpArgs false
set_option maxRecDepth 100000

def Z : Nat → Prop := fun _ => False
/-- A row of the law's own, apart from the disk. -/
structure OwnX (B : Nat) (w : World) (X : Nat → Prop) (v : Value) (l : List Nat) : Prop where
  own : w.ownsRow B 5 1 v l.length (bs l)
  off : ∀ g, v.ownBlock = some g → ¬ X g
section
variable {B d : Nat} {w w1 : World} {X X1 : Nat → Prop} {v v' : Value} {l y : List Nat} {S : St}
theorem OwnX.none_ (B : Nat) (w : World) (X : Nat → Prop) : OwnX B w X (.slice none 0 0) [] := ⟨World.ownsRow_nil _ _ _ _, fun g e => by cases e⟩
theorem OwnX.step (h : OwnX B w X v l) (hs : Step w X w1 X1) : OwnX B w1 X1 v l :=
  ⟨own_keep h.own (fun g e => hs.same g (h.own.lt g e).2 (h.off g e)), fun g e hx => by
    rcases hs.new g hx with h1 | h1
    · exact h.off g e h1
    · have := (h.own.lt g e).2; omega⟩
theorem OwnX.app (h : OwnX B w X v l) (hX : ∀ i, X i → i < w.heap.size) (ho : w1.ownsRow B 5 1 v' (l.length + y.length) (bs l ++ bs y)) (hv : v'.ownBlock = v.ownBlock ∨ v'.ownBlock = some w.heap.size) : OwnX B w1 X v' (l ++ y) := by
  refine ⟨by rw [List.length_append, bs_append]; exact ho, fun g e hx => ?_⟩
  rcases hv with hv | hv
  · exact h.off g (hv.symm.trans e) hx
  · rw [hv] at e
    injection e with e
    have := hX g hx
    omega
theorem Dsk.app (h : Dsk w X d S) (hv : OwnX B w X v l) (hg : w.grownBy w1 v.ownBlock) : Dsk w1 X d S :=
  h.keep hg.size (fun i hi => hg.block i (h.lt i hi) (fun e => hv.off i e.symm hi))
theorem OwnX.beside {u : Value} {m : List Nat} (h : OwnX B w X u m) (hg : w.grownBy w1 v.ownBlock) (hne : ∀ g, u.ownBlock = some g → v.ownBlock ≠ some g) : OwnX B w1 X u m :=
  ⟨own_keep h.own (fun g e => hg.block g (h.own.lt g e).2 (fun e' => hne g e e'.symm)), h.off⟩
theorem OwnX.apart {u : Value} {m : List Nat} (h : OwnX B w X u m) (hne : ∀ g, u.ownBlock = some g → v.ownBlock ≠ some g) (hv : v'.ownBlock = v.ownBlock ∨ v'.ownBlock = some w.heap.size) : ∀ g, u.ownBlock = some g → v'.ownBlock ≠ some g := fun g e e' => by
  rcases hv with hv | hv
  · exact hne g e (hv.symm.trans e')
  · rw [hv] at e'
    injection e' with e'
    have := (h.own.lt g e).2
    omega
/-- An item of a list that came in. -/
theorem src_in {w0 : World} {x : List Nat} (h : IsB w0 v x) (hs : Step w0 Z w X) (hx : ∀ b ∈ x, b < 256) (hm : x.length ≤ maxLen) : ∃ A c, v = .slice A x.length c ∧ Src w X A x.length x := by
  obtain ⟨A, c, rfl, hr⟩ := h
  refine ⟨A, c, rfl, (hr.below (hs.below (B := w0.heap.size) (fun i e => e.elim) (Nat.le_refl _))).more hs.size, fun hn ad e hX => ?_, hx, hm⟩
  obtain ⟨ad', e', hb, _⟩ := hr.2 hn
  rw [e] at e'
  cases e'
  rcases hs.new _ hX with h1 | h1
  · exact h1
  · omega
theorem Src.reads {A : Option Addr} {n : Nat} {x : List Nat} (h : Src w X A n x) : Reads w w.heap.size 1 A n (bs x) := h.rd
theorem Step.zbelow {w0 : World} (hs : Step w0 Z w X) : Below w0.heap.size w0 w := hs.below (fun i e => e.elim) (Nat.le_refl _)
theorem Step.zapp {w0 : World} (hs : Step w0 Z w X) (hv : OwnX w0.heap.size w X v l) (hg : w.grownBy w1 v.ownBlock) : Step w0 Z w1 X := hs.grown hg (fun g e => .inr (hv.own.lt g e).1)
end
end Go.Proofs.Ythgopedojgbaoaa
