/- Contract of package frame's Get: the first frame's part, in new memory, how many bytes the frame has, an error's number. -/
import Derived.Test.YtpibekpddbhojaaDoorFrPart
namespace Go.Proofs.YtpibekpddbhojaaDoor
open Go.RowKit
set_option linter.unusedVariables false
set_option maxRecDepth 100000

/-- A slice that holds 'p', in blocks from 'B' on. -/
structure OwnB (w : World) (B : Nat) (A : Option Addr) (p : List Nat) : Prop where
  reads : Reads w w.heap.size 1 A p.length (bs p)
  far : ∀ ad, A = some ad → B ≤ ad.block
theorem OwnB.none_ {w : World} {B : Nat} : OwnB w B none [] := ⟨Reads.none_, fun _ h => by cases h⟩
theorem OwnB.of_own {w : World} {base : Nat} {e : TypeId} {A : Option Addr} {n c : Nat} {p : List Nat} (h : w.ownsRow base e 1 (.slice A n c) n (bs p)) (B : Nat) (hB : B ≤ base) : n = p.length ∧ OwnB w B A p := by
  have hn : n = p.length := by have := h.1; rw [bs_length] at this; omega
  subst hn
  refine ⟨rfl, Reads.of_own h, fun ad had => ?_⟩
  subst had
  have := (h.lt ad.block rfl).1
  omega
theorem OwnB.next {w w' : World} {B : Nat} {A : Option Addr} {p : List Nat} (h : OwnB w B A p) (hb : Below w.heap.size w w') : OwnB w' B A p := ⟨(h.reads.below hb).more hb.size, h.far⟩
def GetsTo (w : World) (B : Nat) (g : List Nat × Nat × Int) (e : Ending) (w' : World) : Prop :=
  ∃ A c, e = .returned (.tuple #[.slice A g.1.length c, .int .i64 (g.2.1 : Int), .int .i64 g.2.2]) ∧ OwnB w' B A g.1 ∧ Below w.heap.size w w'

theorem get_err (A : Option Addr) (n c : Nat) (w : World) (k : Int) (hk : k = 2 ∨ k = 12 ∨ k = 6) (h : Calls Tryd.prog 24 #[.slice A n c] w (PartErr w k)) :
    Calls Tryd.prog 12 #[.slice A n c] w (GetsTo w w.heap.size ([], 0, k)) := by
  have HH := Lib.hid h; clear h
  have HK := Lib.hid hk; clear hk
  go_enter Tryd.func12, Tryd.ntmps12
  go_wp2_with fail
  refine HH.out.mono ?_
  rintro e w1 ⟨v, rfl, hv, hb1⟩
  have hnum := Lib.hid (number_any hv HK.out)
  rcases hv with rfl | ⟨g, rfl, _⟩ | ⟨g, f, rfl, _, _⟩
  all_goals
    go_wp2_with fail
    refine hnum.out.mono ?_
    rintro e w2 ⟨rfl, rfl⟩
    go_wp2_with fail
    go_ret3
    exact ⟨_, _, rfl, OwnB.none_, hb1⟩
theorem get_ok (A : Option Addr) (n c : Nat) (w : World) (p : List Nat) (hp : p.length ≤ 16777216) (h : Calls Tryd.prog 24 #[.slice A n c] w (PartOk w p)) :
    Calls Tryd.prog 12 #[.slice A n c] w (GetsTo w w.heap.size (p, 8 + p.length, 0)) := by
  have HH := Lib.hid h; clear h
  go_enter Tryd.func12, Tryd.ntmps12
  go_wp2_with fail
  refine HH.out.mono ?_
  rintro e w1 ⟨A1, c1, rfl, hr1, hb1⟩
  go_wp2_with fail
  refine (clone_any A1 p.length c1 (bs p) w1 (hr1.more hb1.size) (bs_one _) (by omega)).mono ?_
  rintro e w2 ⟨v2, rfl, hown2, hb2⟩
  obtain ⟨A2, c2, rfl, _, _, _⟩ := own_slice hown2
  have ho := OwnB.of_own hown2 w.heap.size hb1.size
  go_wp2_with fail
  go_ret3
  exact ⟨_, _, rfl, ho.2, hb1.trans (hb2.mono hb1.size)⟩
theorem getS_head (l : List Nat) (h : headS l ≠ 0) : getS l = ([], 0, headS l) ∧ (headS l = 2 ∨ headS l = 12 ∨ headS l = 6) := by
  unfold headS at h ⊢
  unfold getS
  by_cases h4 : l.length < 4
  · rw [if_pos h4, if_pos h4]; exact ⟨rfl, .inl rfl⟩
  · rw [if_neg h4] at h ⊢
    rw [if_neg h4]
    by_cases hz : 16777216 < fz l
    · rw [if_pos hz, if_pos hz]; exact ⟨rfl, .inr (.inl rfl)⟩
    · rw [if_neg hz] at h ⊢
      rw [if_neg hz]
      by_cases h8 : l.length < 8
      · rw [if_pos h8, if_pos (by omega)]; exact ⟨rfl, .inl rfl⟩
      · rw [if_neg h8] at h; exact absurd rfl h
theorem get_any (A : Option Addr) (n c : Nat) (l : List Nat) (w : World) (hm : Met w) (hr : Reads w w.heap.size 1 A n (bs l)) (hl : ∀ b ∈ l, b < 256) (hc : n ≤ c) (hn : n ≤ 140737488355328) :
    Calls Tryd.prog 12 #[.slice A n c] w (GetsTo w w.heap.size (getS l)) := by
  by_cases hh : headS l = 0
  · have h4 : ¬ l.length < 4 := by intro h; unfold headS at hh; rw [if_pos h] at hh; cases hh
    have hz : ¬ 16777216 < fz l := by intro h; unfold headS at hh; rw [if_neg h4, if_pos h] at hh; cases hh
    have h8 : ¬ l.length < 8 := by intro h; unfold headS at hh; rw [if_neg h4, if_neg hz, if_pos h] at hh; cases hh
    unfold getS
    rw [if_neg h4, if_neg hz]
    by_cases hs : l.length < 8 + fz l
    · rw [if_pos hs]
      exact get_err A n c w 2 (.inl rfl) (part_short A n c l w hm hr hl hc hn h8 hz hs)
    · rw [if_neg hs]
      by_cases hx : sumN (l.take 4 ++ (l.drop 8).take (fz l)) ≠ unfx ((l.drop 4).take 4)
      · rw [if_pos hx]
        exact get_err A n c w 6 (.inr (.inr rfl)) (part_sum A n c l w hm hr hl hc hn hz hs hx)
      · rw [if_neg hx]
        have hx' := Classical.not_not.1 hx
        have hpl : ((l.drop 8).take (fz l)).length = fz l := by rw [List.length_take, List.length_drop]; omega
        have := get_ok A n c w ((l.drop 8).take (fz l)) (by omega) (part_ok A n c l w hm hr hl hc hn hz hs hx')
        rw [hpl] at this
        exact this
  · obtain ⟨e, hk⟩ := getS_head l hh
    rw [e]
    exact get_err A n c w (headS l) hk (part_head A n c l w hm hr hl hc hn hh)
end Go.Proofs.YtpibekpddbhojaaDoor
