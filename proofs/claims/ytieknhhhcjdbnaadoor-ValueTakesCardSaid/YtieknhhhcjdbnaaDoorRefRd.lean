/- The document's own reader: its block; contract of its Fail. -/
import Derived.Deep.RegionWith
import Derived.StillTailTactics
import Derived.Test.YtieknhhhcjdbnaaDoorJ5
namespace Go.Proofs.YtieknhhhcjdbnaaDoor
open Go.RowKit
set_option linter.unusedVariables false
set_option linter.unusedSimpArgs false
set_option maxRecDepth 100000

/-- The document's reader in block 'g': its bytes (below that block), its place, its error's number and place. -/
structure Rf (w : World) (g : Nat) (A : Option Addr) (n c at_ : Nat) (k : Int) (on : Nat) (l : List Nat) : Prop where
  blk : Blk w g 29 #[.slice A n c, .int .i64 (at_ : Int), .int .i64 k, .int .i64 (on : Int)]
  reads : Reads w g 1 A n (bs l)
  cap : n ≤ c
  place : at_ ≤ n
  size : n ≤ 140737488355328
  byte : ∀ b ∈ l, b < 256
/-- An error's number isn't 0. -/
def XOk (x : Option (Int × Nat)) : Prop := ∀ y, x = some y → y.1 ≠ 0
def RfS (w : World) (g : Nat) (l : List Nat) (at_ : Nat) (x : Option (Int × Nat)) : Prop := (∃ A n c, Rf w g A n c at_ (errS x).1 (errS x).2 l) ∧ XOk x
theorem Rf.length {w : World} {g : Nat} {A : Option Addr} {n c at_ : Nat} {k : Int} {on : Nat} {l : List Nat} (h : Rf w g A n c at_ k on l) : l.length = n := by
  have := h.reads.1; rw [bs_length] at this; omega
theorem Rf.below {w w' : World} {g : Nat} {A : Option Addr} {n c at_ : Nat} {k : Int} {on : Nat} {l : List Nat} {B : Nat} (h : Rf w g A n c at_ k on l) (hb : Below B w w') (hg : g < B) : Rf w' g A n c at_ k on l :=
  ⟨h.blk.below hb hg, ⟨h.reads.1, fun hn => by
    obtain ⟨ad, e, hlt, hc⟩ := h.reads.2 hn
    exact ⟨ad, e, hlt, fun j u hu => (hb.cell (by rw [block_of_add]; omega)).trans (hc j u hu)⟩⟩, h.cap, h.place, h.size, h.byte⟩
theorem RfS.lt {w : World} {g : Nat} {l : List Nat} {at_ : Nat} {x : Option (Int × Nat)} (h : RfS w g l at_ x) : g < w.heap.size := by
  obtain ⟨⟨A, n, c, hR⟩, _⟩ := h
  exact hR.blk.lt
theorem RfS.next {w w' : World} {g : Nat} {l : List Nat} {at_ : Nat} {x : Option (Int × Nat)} (h : RfS w g l at_ x) (hb : Below w.heap.size w w') : RfS w' g l at_ x := by
  have hg := h.lt
  obtain ⟨⟨A, n, c, hR⟩, hx⟩ := h
  exact ⟨⟨A, n, c, hR.below hb hg⟩, hx⟩
theorem RfS.place {w : World} {g : Nat} {l : List Nat} {at_ : Nat} {x : Option (Int × Nat)} (h : RfS w g l at_ x) : at_ ≤ l.length ∧ l.length ≤ 140737488355328 := by
  obtain ⟨⟨A, n, c, hR⟩, _⟩ := h
  have := hR.length; have := hR.place; have := hR.size
  omega
def RfTo (w : World) (g : Nat) (l : List Nat) (at_ : Nat) (x : Option (Int × Nat)) (w' : World) : Prop := RfS w' g l at_ x ∧ w.grownBy w' (some g)
theorem RfTo.same {w w' : World} {g : Nat} {l : List Nat} {at_ : Nat} {x : Option (Int × Nat)} (h : RfS w g l at_ x) (hd : Drawn w w') : RfTo w g l at_ x w' := by
  have hb := hd.below (Below.refl w.heap.size w)
  exact ⟨h.next hb, only_below (World.grownBy.refl w _) hb⟩
theorem Rf.set {w w1 : World} {g : Nat} {A : Option Addr} {n c at_ : Nat} {k : Int} {on : Nat} {l : List Nat} (h : Rf w g A n c at_ k on l) (hb : Below w.heap.size w w1) (i : Nat) (u : Value) (at' : Nat) (k' : Int) (on' : Nat) (hat : at' ≤ n)
    (hcs : (#[Value.slice A n c, .int .i64 (at_ : Int), .int .i64 k, .int .i64 (on : Int)] : Array Value).setIfInBounds i u = #[Value.slice A n c, .int .i64 (at' : Int), .int .i64 k', .int .i64 (on' : Int)]) :
    Rf (w1.setCell ⟨g, i, none⟩ u) g A n c at' k' on' l ∧ w.grownBy (w1.setCell ⟨g, i, none⟩ u) (some g) := by
  have h1 := h.below hb h.blk.lt
  refine ⟨⟨?_, h1.reads.setCell (p := ⟨g, i, none⟩) (Nat.le_refl _) _, h.cap, hat, h.size, h.byte⟩, only_setCell (only_below (World.grownBy.refl w _) hb) (.inl rfl) _⟩
  have := h1.blk.set_ i u
  rwa [hcs] at this

theorem rfail_is {w : World} {g : Nat} {l : List Nat} {at_ : Nat} {x : Option (Int × Nat)} (k : Int) (h : RfS w g l at_ x) :
    Calls Tryd.prog 34 #[.pointer (some ⟨g, 0, none⟩), .int .i64 k] w fun e w' => e = .returned (.tuple #[]) ∧ RfTo w g l at_ (failS at_ x k) w' := by
  have h0 := h
  obtain ⟨⟨A, n, c, hR⟩, hX⟩ := h
  have hc1 := hR.blk.cell 1
  have hc2 := hR.blk.cell 2
  have hc3 := hR.blk.cell 3
  have hz2 := hR.blk.frozen 2
  have hz3 := hR.blk.frozen 3
  simp only [List.getElem?_toArray, List.getElem?_cons_succ, List.getElem?_cons_zero] at hc1 hc2 hc3
  cases x with
  | some x =>
    obtain ⟨k0, on⟩ := x
    have hk0 : (k0 == 0) = false := by have := hX _ rfl; simp at this; simp [this]
    have hc2' : w.cell? ⟨g, 2, none⟩ = some (.int .i64 k0) := hc2
    clear hc2 hc3
    go_enter Tryd.func34, Tryd.ntmps34
    go_wp2_with fail
    go_end0
    exact ⟨rfl, RfTo.same h0 (Drawn.refl w)⟩
  | none =>
    have hc2' : w.cell? ⟨g, 2, none⟩ = some (.int .i64 0) := hc2
    have hc3' : w.cell? ⟨g, 3, none⟩ = some (.int .i64 0) := hc3
    clear hc2 hc3
    by_cases hk : k = 0
    · subst hk
      go_enter Tryd.func34, Tryd.ntmps34
      go_wp2_with fail
      go_end0
      exact ⟨rfl, RfTo.same h0 (Drawn.refl w)⟩
    · have hk1 : (k == 0) = false := by simp [hk]
      have hk2 : (k != 0) = true := by simp [hk]
      have hF : failS at_ none k = some (k, at_) := by unfold failS; simp [hk]
      rw [hF]
      clear hF
      go_enter Tryd.func34, Tryd.ntmps34
      go_wp2_with fail
      go_end0
      have s1 := hR.set (Below.refl w.heap.size w) 2 (.int .i64 k) at_ k 0 hR.place rfl
      have s2 := s1.1.set (Below.refl _ _) 3 (.int .i64 (at_ : Int)) at_ k at_ hR.place rfl
      exact ⟨rfl, ⟨⟨A, n, c, s2.1⟩, fun y hy => by injection hy with hy; subst hy; exact hk⟩, s1.2.trans s2.2⟩
end Go.Proofs.YtieknhhhcjdbnaaDoor
