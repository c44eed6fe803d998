/- Contract of the Reader's End. -/
import Derived.Test.YtieknhhhcjdbnaaDoorJ5
namespace Go.Proofs.YtieknhhhcjdbnaaDoor
open Go.RowKit
set_option linter.unusedVariables false
set_option linter.unusedSimpArgs false
set_option maxRecDepth 100000

def endS (l : List Nat) (at_ : Nat) (x : Option (Int × Nat)) : Int × Nat := if (errS x).1 = 0 ∧ at_ < l.length then (3, at_) else errS x
set_option maxHeartbeats 400000 in
theorem end_is {w : World} {g : Nat} {l : List Nat} {at_ : Nat} {x : Option (Int × Nat)} (hm : Met w) (h : RdS w g l at_ x) :
    Calls Tryd.prog 21 #[.pointer (some ⟨g, 0, none⟩)] w fun e w' => Tells (endS l at_ x).1 ((endS l at_ x).2 : Int) e ∧ Below w.heap.size w w' := by
  have hp := h.place
  rcases hx : errS x with ⟨k, on⟩
  have hE := err_is hm h
  rw [hx] at hE
  have HE := Lib.hid hE
  clear hE
  unfold endS
  rw [hx]
  have Hx := Lib.hid hx
  clear hx
  by_cases hk : k = 0
  · subst hk
    by_cases hlt : at_ < l.length
    · rw [if_pos ⟨rfl, hlt⟩]
      go_enter Tryd.func21, Tryd.ntmps21
      go_wp2_with fail
      refine HE.out.mono ?_
      rintro e w1 ⟨rfl, hb1⟩
      have h1 := h.next hb1
      go_wp2_with fail
      refine (left_is h1).mono ?_
      rintro e w2 ⟨rfl, hd2⟩
      have hb2 := hd2.below hb1
      have h2 := h1.next (hd2.below (Below.refl _ _))
      obtain ⟨A, n, c, err, hR, _⟩ := h2
      have hc := hR.blk.cell 1
      simp only [List.getElem?_toArray, List.getElem?_cons_succ, List.getElem?_cons_zero] at hc
      go_wp2_with fail
      go_quiet (fail)
      go_wp2_with fail
      go_ret2
      exact ⟨rfl, (Drawn.one w2 _).below hb2⟩
    · rw [if_neg (fun h => hlt h.2)]
      go_enter Tryd.func21, Tryd.ntmps21
      go_wp2_with fail
      refine HE.out.mono ?_
      rintro e w1 ⟨rfl, hb1⟩
      have h1 := h.next hb1
      go_wp2_with fail
      refine (left_is h1).mono ?_
      rintro e w2 ⟨rfl, hd2⟩
      have hb2 := hd2.below hb1
      go_wp2_with fail
      go_ret2
      exact ⟨rfl, hb2⟩
  · have hk1 : (k == 0) = false := by simp [hk]
    rw [if_neg (fun h => hk h.1)]
    go_enter Tryd.func21, Tryd.ntmps21
    go_wp2_with fail
    refine HE.out.mono ?_
    rintro e w1 ⟨rfl, hb1⟩
    go_wp2_with fail
    go_ret2
    exact ⟨rfl, hb1⟩
end Go.Proofs.YtieknhhhcjdbnaaDoor
