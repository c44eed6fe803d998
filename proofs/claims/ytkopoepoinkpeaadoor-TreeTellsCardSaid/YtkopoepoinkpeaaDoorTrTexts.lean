/- Contract of the document's Texts: all that is digested for a root, in new memory. No condition. -/
import Derived.Test.YtkopoepoinkpeaaDoorTrRefRoot
import Derived.Test.YtkopoepoinkpeaaDoorTrOf
import Derived.Test.YtkopoepoinkpeaaDoorLists
namespace Go.Proofs.YtkopoepoinkpeaaDoor
open Go.RowKit
set_option linter.unusedVariables false
set_option linter.unusedSimpArgs false
set_option maxRecDepth 100000
attribute [local go_sem ↓] Go.wp_at_zero Go.wp_at_succ

/-- A slice that reads as bytes, within its room, from block 'B' on, off the block 'own'. -/
def TextIn (w : World) (B : Nat) (own : Option Nat) (v : Value) (l : List Nat) : Prop :=
  ∃ A c, v = .slice A l.length c ∧ l.length ≤ c ∧ Reads w w.heap.size 1 A l.length (bs l) ∧ (0 < l.length → ∀ ad, A = some ad → B ≤ ad.block ∧ some ad.block ≠ own)
theorem TextIn.isC {w : World} {B : Nat} {own : Option Nat} {v : Value} {l : List Nat} (h : TextIn w B own v l) : IsC w v l := by
  obtain ⟨A, c, e, hc, hr, _⟩ := h
  exact ⟨A, c, e, hc, hr⟩
theorem TextIn.one {w : World} {B : Nat} {own : Option Nat} {v : Value} {l : List Nat} (h : TextIn w B own v l) : v.oneCell' = true := by
  obtain ⟨A, c, rfl, _⟩ := h; rfl
theorem TextIn.next {w w' : World} {B : Nat} {own : Option Nat} {v : Value} {l : List Nat} (h : TextIn w B own v l) (hb : Below w.heap.size w w') : TextIn w' B own v l := by
  obtain ⟨A, c, e, hc, hr, ho⟩ := h
  exact ⟨A, c, e, hc, (hr.below hb).more hb.size, ho⟩
theorem TextIn.grown {w w' : World} {B : Nat} {own own' : Option Nat} {v : Value} {l : List Nat} (h : TextIn w B own v l) (hg : w.grownBy w' own) (ho' : own' = own ∨ own' = some w.heap.size) : TextIn w' B own' v l := by
  obtain ⟨A, c, e, hc, hr, ho⟩ := h
  refine ⟨A, c, e, hc, ⟨hr.1, fun hn => ?_⟩, fun hn ad had => ⟨(ho hn ad had).1, ?_⟩⟩
  · obtain ⟨ad, had, hlt, hcell⟩ := hr.2 hn
    refine ⟨ad, had, Nat.lt_of_lt_of_le hlt hg.size, fun j u hu => hg.cell (hcell j u hu) ?_⟩
    rw [block_of_add]
    exact (ho hn ad had).2
  · rcases ho' with rfl | rfl
    · exact (ho hn ad had).2
    · obtain ⟨ad', had', hlt, _⟩ := hr.2 hn
      rw [had] at had'
      injection had' with had'
      subst had'
      intro h
      injection h with h
      omega
/-- The same from an elder block on, off another block that is elder than its own. -/
theorem TextIn.off {w : World} {B B' : Nat} {own own' : Option Nat} {v : Value} {l : List Nat} (h : TextIn w B own v l) (hB : B' ≤ B) (ho : ∀ g, own' = some g → g < B) : TextIn w B' own' v l := by
  obtain ⟨A, c, e, hc, hr, h2⟩ := h
  refine ⟨A, c, e, hc, hr, fun hn ad had => ⟨by have := (h2 hn ad had).1; omega, fun h3 => ?_⟩⟩
  have := ho _ h3.symm
  have := (h2 hn ad had).1
  omega
/-- New bytes are such a slice. -/
theorem TextIn.of_own {w : World} {B : Nat} {e : TypeId} {v : Value} {l : List Nat} {own : Option Nat} (h : w.ownsRow B e 1 v l.length (bs l)) (ho : ∀ g, own = some g → w.heap.size ≤ g ∨ g < B) : TextIn w B own v l := by
  obtain ⟨A, c, rfl, hc, _, hr⟩ := own_slice h
  refine ⟨A, c, rfl, hc, hr, fun hn ad had => ?_⟩
  subst had
  obtain ⟨g, cap, hv, hge, hlt⟩ := h.form hn
  injection hv with hv
  injection hv with hv
  subst hv
  refine ⟨hge, fun h3 => ?_⟩
  have h4 : own = some g := h3.symm
  rcases ho _ h4 with h5 | h5 <;> omega
/-- A row of the call's own that lists such texts. -/
def RowT (w : World) (B : Nat) (v : Value) (vs : List Value) (ls : List (List Nat)) : Prop :=
  w.ownsRow B 37 1 v ls.length vs ∧ Each (TextIn w B v.ownBlock) vs ls
theorem RowT.next {w w' : World} {B : Nat} {v : Value} {vs : List Value} {ls : List (List Nat)} (h : RowT w B v vs ls) (hb : Below w.heap.size w w') : RowT w' B v vs ls :=
  ⟨own_below h.1 hb, h.2.imp fun _ _ x => x.next hb⟩
theorem RowT.app {w w' : World} {B : Nat} {v v' : Value} {vs us : List Value} {ls ms : List (List Nat)} {n : Nat} (h : RowT w B v vs ls) (hu : Each (TextIn w B v.ownBlock) us ms) (hn : n = (ls ++ ms).length) (hown : w'.ownsRow B 37 1 v' n (vs ++ us)) (hg : w.grownBy w' v.ownBlock)
    (hat : v'.ownBlock = v.ownBlock ∨ v'.ownBlock = some w.heap.size) : RowT w' B v' (vs ++ us) (ls ++ ms) := by
  subst hn
  exact ⟨hown, (h.2.append hu).imp fun _ _ x => x.grown hg hat⟩
theorem RowT.lc {w : World} {B : Nat} {A : Option Addr} {c : Nat} {vs : List Value} {ls : List (List Nat)} (h : RowT w B (.slice A ls.length c) vs ls) : LC w A ls :=
  ⟨vs, Reads.of_own h.1, h.2.imp fun _ _ x => x.isC⟩
theorem RowT.one {w : World} {B : Nat} {v : Value} {vs : List Value} {ls : List (List Nat)} (h : RowT w B v vs ls) : ∀ u ∈ vs, u.oneCell' = true := h.2.cells fun _ _ x => x.one
/-- A new block that lists one. -/
theorem RowT.new {w : World} {B : Nat} {u : Value} {l : List Nat} (hB : B ≤ w.heap.size) (h : TextIn w B none u l) : RowT (w.alloc (.cells #[u] 37)) B (.slice (some ⟨w.heap.size, 0, none⟩) 1 1) [u] [l] := by
  refine ⟨own_of_blkS (base := B) (n := 1) (cap := 1) (Blk.new w 37 #[u]) hB (Nat.le_refl _) (by unfold maxLen; omega) rfl (xs := [u]) rfl, ?_, trivial⟩
  have h2 : TextIn w B (some w.heap.size) u l := by
    obtain ⟨A, c, e, hc, hr, h2⟩ := h
    refine ⟨A, c, e, hc, hr, fun hn ad had => ⟨(h2 hn ad had).1, fun h3 => ?_⟩⟩
    obtain ⟨ad', had', hlt, _⟩ := hr.2 hn
    rw [had] at had'
    injection had' with had'
    subst had'
    injection h3 with h3
    omega
  exact h2.next ((Below.refl _ _).alloc (Nat.le_refl _) _)
/-- What Texts answers. -/
def NewT (w : World) (ls : List (List Nat)) (e : Ending) (w' : World) : Prop := ∃ v vs, e = .returned v ∧ RowT w' w.heap.size v vs ls ∧ Below w.heap.size w w'
theorem textIn_empty (w : World) (B : Nat) (own : Option Nat) : TextIn w B own (.slice none 0 0) [] := ⟨none, 0, rfl, Nat.le_refl _, Reads.none_, fun h => absurd h (by simp)⟩
def TextsC (N : Nat) : Prop := ∀ (ls : List (List Nat)) (A : Option Addr) (c : Nat) (w : World), ls.length = N → N ≤ 1000 → LC w A ls → (∀ l ∈ ls, ∀ b ∈ l, b < 256) → (∀ l ∈ ls, l.length ≤ 1000000) → N ≤ c →
    Calls Tryd.prog 26 #[.slice A N c] w (NewT w (textsD ls))
set_option maxHeartbeats 2000000 in
theorem texts_small (N : Nat) (ls : List (List Nat)) (A : Option Addr) (c : Nat) (w : World) (hN : ls.length = N) (hs : N < 2) (hp : LC w A ls) (hlong : ∀ l ∈ ls, l.length ≤ 1000000) :
    Calls Tryd.prog 26 #[.slice A N c] w (NewT w (textsD ls)) := by
  by_cases h0 : N = 0
  · subst h0
    obtain rfl : ls = [] := List.eq_nil_of_length_eq_zero hN
    rw [textsD_nil]
    have HR := Lib.hid (RowT.new (w := w) (Nat.le_refl _) (textIn_empty w w.heap.size none))
    have HB := Lib.hid ((Below.refl w.heap.size w).alloc (Nat.le_refl _) (.cells #[.slice none 0 0] 37))
    go_enter Tryd.func26, Tryd.ntmps26
    go_wp2_with fail
    go_ret
    exact ⟨_, _, rfl, HR.out, HB.out⟩
  · obtain rfl : N = 1 := by omega
    obtain ⟨l, rfl⟩ : ∃ l, ls = [l] := by
      match ls, hN with
      | [l], _ => exact ⟨l, rfl⟩
    rw [textsD_one]
    obtain ⟨ad, u, rfl, hcell, A', c', rfl, hcc, hrr⟩ := hp.at_ (i := 0) (l := l) rfl
    obtain ⟨b, o, e, _⟩ := hp.plain (by simp)
    injection e with e
    subst e
    rw [show (⟨b, o, none⟩ : Addr).add 0 = ⟨b, o, none⟩ from rfl] at hcell
    have HC := Lib.hid (ofLeaf_any A' l.length c' l w hrr (hlong l (by simp)))
    clear hrr hlong hp
    go_enter Tryd.func26, Tryd.ntmps26
    go_wp2_with fail
    refine HC.out.mono ?_
    rintro _ w2 ⟨v, rfl, hown, hb⟩
    have ht : TextIn w2 w.heap.size none v (0 :: l) := TextIn.of_own hown (by intro g h; cases h)
    obtain ⟨A2, c2, rfl, _, _, _⟩ := own_slice hown
    have HR := Lib.hid (RowT.new hb.size ht)
    have HB := Lib.hid (hb.alloc hb.size (.cells #[.slice A2 (l.length + 1) c2] 37))
    clear ht hown hb
    go_wp2_with fail
    go_ret
    exact ⟨_, _, rfl, HR.out, HB.out⟩
end Go.Proofs.YtkopoepoinkpeaaDoor
