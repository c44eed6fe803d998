/- The walk of the statement PlainPuts: any numbers have the form, and as many bytes, as the document says. -/
import Derived.Test.YtjpcenbleolbgaaPlAwake
import Derived.Test.YtjpcenbleolbgaaPlRefPut
namespace Go.Proofs.Ytjpcenbleolbgaa
open Go.RowKit
set_option linter.unusedVariables false
set_option linter.unusedSimpArgs false
set_option maxRecDepth 100000

theorem puts_any (A : Option Addr) (n c : Nat) (l : List Int) (w : World) (hr : Reads w w.heap.size 1 A n (zs l)) (hl : ∀ z ∈ l, In64 z) :
    Calls Try.prog 3 #[.slice A n c] w fun e w' => e = .returned (.bool true) ∧ Below w.heap.size w w' := by
  by_cases h : 300 < n
  · go_enter Try.func3, Try.ntmps3
    go_wp2_with fail
    refine (awake_any w).mono ?_
    rintro e w1 ⟨rfl, hb⟩
    go_wp2_with fail
    go_ret
    exact ⟨rfl, hb⟩
  · have e1 : l.length = n := by have := hr.1; rw [zs_length] at this; omega
    have hpl := pl_length l
    rw [e1] at hpl
    clear e1
    go_enter Try.func3, Try.ntmps3
    go_wp2_with fail
    refine (plPut_any A n c l w hr hl (by omega)).mono ?_
    rintro e w1 ⟨v1, rfl, hown1, hb1⟩
    obtain ⟨A1, c1, rfl, _, _, hr1⟩ := own_slice hown1
    have r1 := hr.next hb1
    clear hown1
    go_wp2_with fail
    refine (refPlPut_any A n c l w1 r1 hl (by omega)).mono ?_
    intro e2 w2 hN2
    obtain ⟨A2, c2, rfl, _, hr2, hb2⟩ := hN2.opened
    have hr12 := hr1.next hb2
    have r2 := r1.next hb2
    have hb02 := hb1.trans (hb2.mono hb1.size)
    clear hN2 hr1 r1 hb1 hb2
    go_wp2_with fail
    refine (same_true A1 A2 _ c1 _ c2 (pl l) w2 hr12 hr2 (by omega)).mono ?_
    rintro e w3 ⟨rfl, hd3⟩
    have hb03 := hd3.below hb02
    have r3 := r2.next (hd3.below (Below.refl _ _))
    clear hr12 hr2 r2 hb02 hd3
    go_wp2_with fail
    refine (plen_any A n c l _ w3 r3 hl (by omega)).mono ?_
    rintro e w' ⟨rfl, rfl⟩
    go_wp2_with fail
    refine (awake_any w3).mono ?_
    rintro e w4 ⟨rfl, hb4⟩
    go_wp2_with fail
    go_ret
    exact ⟨rfl, hb03.trans (hb4.mono hb03.size)⟩
end Go.Proofs.Ytjpcenbleolbgaa
