/- The walk of the statement RunsPuts: any numbers have the form, and the count of runs, that the document says. -/
import Derived.Test.YtlonaeonndjmmaaRnAwake
import Derived.Test.YtlonaeonndjmmaaRnCount
import Derived.Test.YtlonaeonndjmmaaRnRefPut
namespace Go.Proofs.Ytlonaeonndjmmaa
open Go.RowKit
set_option linter.unusedVariables false
set_option linter.unusedSimpArgs false
set_option maxRecDepth 100000

theorem rnPuts_any (A : Option Addr) (n c : Nat) (l : List Int) (w : World) (hr : Reads w w.heap.size 1 A n (zs l)) (hl : ∀ z ∈ l, In64 z) :
    Calls Try.prog 3 #[.slice A n c] w fun e w' => e = .returned (.bool true) ∧ Below w.heap.size w w' := by
  by_cases h : 300 < n
  · go_enter Try.func3, Try.ntmps3
    go_wp2_with fail
    refine (rnAwake_any w).mono ?_
    rintro e w1 ⟨rfl, hb⟩
    go_wp2_with fail
    go_ret
    exact ⟨rfl, hb⟩
  · have e1 : l.length = n := by have := hr.1; rw [zs_length] at this; omega
    have hrf := rf_length (runs l)
    have hrc := rc_le l
    rw [e1] at hrc
    have hrl : (runs l).length = rc l := rfl
    rw [hrl] at hrf
    clear e1 hrl
    go_enter Try.func3, Try.ntmps3
    go_wp2_with fail
    refine (rnPut_any A n c l w hr hl (by omega)).mono ?_
    rintro e w1 ⟨v1, rfl, hown1, hb1⟩
    obtain ⟨A1, c1, rfl, _, _, hr1⟩ := own_slice hown1
    have r1 := hr.next hb1
    clear hown1
    go_wp2_with fail
    refine (refRnPut_any A n c l w1 r1 hl (by omega)).mono ?_
    intro e2 w2 hN2
    obtain ⟨A2, c2, rfl, _, hr2, hb2⟩ := hN2.opened
    have hr12 := hr1.next hb2
    have r2 := r1.next hb2
    have hb02 := hb1.trans (hb2.mono hb1.size)
    clear hN2 hr1 r1 hb1 hb2
    go_wp2_with fail
    refine (same_true A1 A2 _ c1 _ c2 (rf (runs l)) w2 hr12 hr2 (by omega)).mono ?_
    rintro e w3 ⟨rfl, hd3⟩
    have hb03 := hd3.below hb02
    have r3 := r2.next (hd3.below (Below.refl _ _))
    clear hr12 hr2 r2 hb02 hd3
    go_wp2_with fail
    refine (count_any A n c l w3 r3 (by omega)).mono ?_
    rintro e w4 ⟨rfl, hb4⟩
    have hb04 := hb03.trans (hb4.mono hb03.size)
    have r4 := r3.next hb4
    go_wp2_with fail
    refine (refRuns_any A n c l w4 r4 (by omega)).mono ?_
    rintro e w5 ⟨v5, rfl, hown5, hb5⟩
    obtain ⟨A5, c5, rfl, _, _, _⟩ := own_slice hown5
    have hb05 := hb04.trans (hb5.mono hb04.size)
    clear hown5 hb4 hb5 hb03 hb04 r3 r4
    go_wp2_with fail
    refine (rnAwake_any w5).mono ?_
    rintro e w6 ⟨rfl, hb6⟩
    go_wp2_with fail
    go_ret
    exact ⟨rfl, hb05.trans (hb6.mono hb05.size)⟩
end Go.Proofs.Ytlonaeonndjmmaa
