/- Package num's Reader with its error: none, or a fault with its number and its place. Contracts of stopped, stop, At, Left. -/
import Derived.Test.YtieknhhhcjdbnaaDoorJ2
namespace Go.Proofs.YtieknhhhcjdbnaaDoor
open Go.RowKit
set_option linter.unusedVariables false
set_option linter.unusedSimpArgs false
set_option maxRecDepth 100000

/-- What the field err holds: nothing, or a fault: its number, its place. -/
def ErrIs (w : World) (err : Value) : Option (Int × Nat) → Prop
  | none => err = .nilIface
  | some (k, on) => ∃ f, err = .iface 93 (.pointer (some ⟨f, 0, none⟩)) ∧ Blk w f 98 #[.int .i64 (on : Int), .iface 44 (.int .i64 k)]
/-- A reader in block 'g': its bytes, its place, its error. -/
def RdS (w : World) (g : Nat) (l : List Nat) (at_ : Nat) (x : Option (Int × Nat)) : Prop := ∃ A n c err, Rd w g A n c at_ err l ∧ ErrIs w err x

theorem ErrIs.next {w w' : World} {err : Value} {x : Option (Int × Nat)} (h : ErrIs w err x) (hb : ∀ f t cs, Blk w f t cs → t = 98 → Blk w' f t cs) : ErrIs w' err x := by
  cases x with
  | none => exact h
  | some x =>
    obtain ⟨k, on⟩ := x
    obtain ⟨f, e, hf⟩ := h
    exact ⟨f, e, hb _ _ _ hf rfl⟩
theorem RdS.lt {w : World} {g : Nat} {l : List Nat} {at_ : Nat} {x : Option (Int × Nat)} (h : RdS w g l at_ x) : g < w.heap.size := by
  obtain ⟨A, n, c, err, hR, _⟩ := h
  exact hR.blk.lt
theorem RdS.next {w w' : World} {g : Nat} {l : List Nat} {at_ : Nat} {x : Option (Int × Nat)} (h : RdS w g l at_ x) (hb : Below w.heap.size w w') : RdS w' g l at_ x := by
  have hg := h.lt
  obtain ⟨A, n, c, err, hR, hE⟩ := h
  exact ⟨A, n, c, err, hR.below hb hg, hE.next fun f t cs hf _ => hf.below hb hf.lt⟩
theorem RdS.place {w : World} {g : Nat} {l : List Nat} {at_ : Nat} {x : Option (Int × Nat)} (h : RdS w g l at_ x) : at_ ≤ l.length ∧ l.length ≤ 140737488355328 := by
  obtain ⟨A, n, c, err, hR, hE⟩ := h
  have := hR.length; have := hR.place; have := hR.size
  omega
theorem Blk.type_ne {w : World} {g g' : Nat} {t t' : TypeId} {cs cs' : Array Value} (h : Blk w g t cs) (h' : Blk w g' t' cs') (hne : t ≠ t') : g ≠ g' := by
  rintro rfl
  unfold Blk at h h'
  rw [h] at h'
  injection h' with h'
  injection h' with _ ht
  exact hne ht
theorem RdS.goes {w w1 : World} {g : Nat} {l : List Nat} {at_ : Nat} {A : Option Addr} {n c : Nat} {err : Value} {x : Option (Int × Nat)} (hR : Rd w g A n c at_ err l) (hE : ErrIs w err x) (k : Nat) (hk : at_ + k ≤ n) (hb : Below w.heap.size w w1) :
    RdS (w1.setCell ⟨g, 1, none⟩ (.int .i64 ((at_ : Int) + (k : Int)))) g l (at_ + k) x ∧ w.grownBy (w1.setCell ⟨g, 1, none⟩ (.int .i64 ((at_ : Int) + (k : Int)))) (some g) := by
  have hR1 := hR.below hb hR.blk.lt
  have hE1 := hE.next (w' := w1) fun f t cs hf _ => hf.below hb hf.lt
  have := hR1.goes 0 k hk
  refine ⟨⟨A, n, c, err, this.1, hE1.next fun f t cs hf ht => hf.far (p := ⟨g, 1, none⟩) (hf.type_ne hR1.blk (by rw [ht]; decide)) _⟩, ?_⟩
  exact only_setCell (only_below (World.grownBy.refl w _) hb) (.inl rfl) _

theorem stopped_err {w : World} {g : Nat} {l : List Nat} {at_ : Nat} {x : Int × Nat} (h : RdS w g l at_ (some x)) :
    Calls Tryd.prog 52 #[.pointer (some ⟨g, 0, none⟩)] w fun e w' => e = .returned (.bool true) ∧ w = w' := by
  obtain ⟨A, n, c, err, hR, hE⟩ := h
  obtain ⟨k, on⟩ := x
  obtain ⟨f, rfl, hf⟩ := hE
  have hc := hR.blk.cell 2
  simp only [List.getElem?_toArray, List.getElem?_cons_succ, List.getElem?_cons_zero] at hc
  go_enter Tryd.func52, Tryd.ntmps52
  go_wp2_with fail
  go_ret
  exact ⟨rfl, rfl⟩
theorem stop_any {w : World} {g : Nat} {A : Option Addr} {n c at_ : Nat} {l : List Nat} (k : Int) (hR : Rd w g A n c at_ .nilIface l) :
    Calls Tryd.prog 53 #[.pointer (some ⟨g, 0, none⟩), .iface 44 (.int .i64 k)] w
      fun e w' => e = .returned (.tuple #[]) ∧ RdS w' g l at_ (some (k, at_)) ∧ w.grownBy w' (some g) := by
  have hc := hR.blk.cell 1
  have hc2 := hR.blk.cell 2
  simp only [List.getElem?_toArray, List.getElem?_cons_succ, List.getElem?_cons_zero] at hc hc2
  have hf := hR.blk.frozen 2
  have hlt := hR.blk.lt
  go_enter Tryd.func53, Tryd.ntmps53
  go_wp2_with fail
  go_end0
  have hR1 : RdS ((w.setCell ⟨g, 2, none⟩ (.iface 93 (.pointer (some ⟨w.heap.size, 0, none⟩)))).alloc (.cells #[.int .i64 (at_ : Int), .iface 44 (.int .i64 k)] 98)) g l at_ (some (k, at_)) := by
    refine ⟨A, n, c, _, ⟨?_, ((hR.reads.setCell (p := ⟨g, 2, none⟩) (Nat.le_refl _) _).alloc (by simp; omega) _), hR.cap, hR.place, hR.size, hR.byte⟩, w.heap.size, rfl, ?_⟩
    · have := (hR.blk.set_ 2 (.iface 93 (.pointer (some ⟨w.heap.size, 0, none⟩)))).alloc (.cells #[.int .i64 (at_ : Int), .iface 44 (.int .i64 k)] 98)
      simpa using this
    · have := Blk.new (w.setCell ⟨g, 2, none⟩ (.iface 93 (.pointer (some ⟨w.heap.size, 0, none⟩)))) 98 #[.int .i64 (at_ : Int), .iface 44 (.int .i64 k)]
      simpa using this
  exact ⟨rfl, hR1, only_alloc (only_setCell (World.grownBy.refl w _) (.inl rfl) _) _⟩

/-! What the reader's methods do, told by its bytes, its place and its error. -/
def takeS (l : List Nat) (at_ : Nat) (x : Option (Int × Nat)) (n : Int) : List Nat × Nat × Option (Int × Nat) :=
  match x with
  | some x => ([], at_, some x)
  | none => if n < 0 then ([], at_, some (1, at_)) else if (l.length : Int) - at_ < n then ([], at_, some (2, at_)) else ((l.drop at_).take n.toNat, at_ + n.toNat, none)
def fixS (l : List Nat) (at_ : Nat) (x : Option (Int × Nat)) (n : Int) : Nat × Nat × Option (Int × Nat) :=
  match x with
  | some x => (0, at_, some x)
  | none => if n < 0 ∨ 8 < n then (0, at_, some (1, at_)) else if (l.length : Int) - at_ < n then (0, at_, some (2, at_)) else (unfx ((l.drop at_).take n.toNat), at_ + n.toNat, none)
def failS (at_ : Nat) (x : Option (Int × Nat)) (k : Int) : Option (Int × Nat) :=
  match x with
  | some x => some x
  | none => if k = 0 then none else some (k, at_)
/-- What a method leaves: the reader so, and nothing else that was there changed. -/
def RdTo (w : World) (g : Nat) (l : List Nat) (at_ : Nat) (x : Option (Int × Nat)) (w' : World) : Prop := RdS w' g l at_ x ∧ w.grownBy w' (some g)
theorem RdTo.same {w w' : World} {g : Nat} {l : List Nat} {at_ : Nat} {x : Option (Int × Nat)} (h : RdS w g l at_ x) (hd : Drawn w w') : RdTo w g l at_ x w' := by
  have hb := hd.below (Below.refl w.heap.size w)
  exact ⟨h.next hb, only_below (World.grownBy.refl w _) hb⟩
/-- What a method answers that answers bytes. -/
def Bytes (l : List Nat) (e : Ending) (w' : World) : Prop := ∃ A n c, e = .returned (.slice A n c) ∧ Reads w' w'.heap.size 1 A n (bs l)

theorem left_nil (w : World) : Calls Tryd.prog 48 #[.pointer none] w fun e w' => e = .returned (.int .i64 0) ∧ w = w' := by
  go_enter Tryd.func48, Tryd.ntmps48
  go_wp2_with fail
  go_ret
  exact ⟨rfl, rfl⟩
theorem left_is {w : World} {g : Nat} {l : List Nat} {at_ : Nat} {x : Option (Int × Nat)} (h : RdS w g l at_ x) :
    Calls Tryd.prog 48 #[.pointer (some ⟨g, 0, none⟩)] w fun e w' => e = .returned (.int .i64 ((l.length : Int) - at_)) ∧ Drawn w w' := by
  obtain ⟨A, n, c, err, hR, hE⟩ := h
  exact (left_any hR).mono fun e w' ⟨he, hd⟩ => ⟨by rw [he, hR.length], hd⟩
theorem stop_is {w : World} {g : Nat} {l : List Nat} {at_ : Nat} (k : Int) (h : RdS w g l at_ none) :
    Calls Tryd.prog 53 #[.pointer (some ⟨g, 0, none⟩), .iface 44 (.int .i64 k)] w fun e w' => e = .returned (.tuple #[]) ∧ RdTo w g l at_ (some (k, at_)) w' := by
  obtain ⟨A, n, c, err, hR, rfl⟩ := h
  exact stop_any k hR
theorem stopped_is {w : World} {g : Nat} {l : List Nat} {at_ : Nat} (h : RdS w g l at_ none) :
    Calls Tryd.prog 52 #[.pointer (some ⟨g, 0, none⟩)] w fun e w' => e = .returned (.bool false) ∧ w = w' := by
  obtain ⟨A, n, c, err, hR, rfl⟩ := h
  exact stopped_ok hR

theorem only_trans {a b c : World} {row : Option Nat} (h : a.grownBy b row) (k : b.grownBy c row) : a.grownBy c row := h.trans k
theorem own_far {w : World} {B g i n c : Nat} {A : Option Addr} {e : TypeId} {xs : List Value} (h : w.ownsRow B e 1 (.slice A n c) n xs) (hg : g < B) (u : Value) : Reads (w.setCell ⟨g, i, none⟩ u) (w.setCell ⟨g, i, none⟩ u).heap.size 1 A n xs :=
  Reads.of_own (h.kept (only_setCell (p := ⟨g, i, none⟩) (World.grownBy.refl w (some g)) (.inl rfl) u) (.inr (fun h' => by have := (h.lt g h').1; omega)))
end Go.Proofs.YtieknhhhcjdbnaaDoor
