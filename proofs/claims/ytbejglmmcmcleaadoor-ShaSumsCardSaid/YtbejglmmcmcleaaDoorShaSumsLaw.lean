/- The walk of the statement ShaSums. -/
import Derived.Test.YtbejglmmcmcleaaDoorShaAwake
import Derived.Test.YtbejglmmcmcleaaDoorShaRefSum
import Derived.Test.YtbejglmmcmcleaaDoorShaEql
namespace Go.Proofs.YtbejglmmcmcleaaDoor
open Go.RowKit
set_option linter.unusedVariables false
set_option maxRecDepth 100000

set_option maxHeartbeats 1000000 in
theorem sumsLaw_any (A : Option Addr) (n c : Nat) (l : List Nat) (w : World) (hr : Reads w w.heap.size 1 A n (bs l)) (hl : ∀ b ∈ l, b < 256) (hc : n ≤ c) (ht : Tab w) :
    Calls Tryd.prog 3 #[.slice A n c] w fun e w' => e = .returned (.bool true) ∧ Below w.heap.size w w' := by
  have HT := Lib.hid ht; clear ht
  by_cases h : 500 < n
  · go_enter Tryd.func3, Tryd.ntmps3
    go_wp2_with fail
    refine (awake_any w HT.out).mono ?_
    rintro _ w1 ⟨rfl, hb⟩
    go_wp2_with fail
    go_ret
    exact ⟨rfl, hb⟩
  · have hq := fun W => eql_hash W (shaN l) (shaN l) (shaN_length _) (shaN_length _)
    rw [decide_eq_true (rfl : shaN l = shaN l)] at hq
    have HR := Lib.hid hr; have HL := Lib.hid hl
    clear hr hl
    have S1 := Lib.hid (sum_any A n c l w HR.out HL.out hc (by omega) HT.out)
    obtain ⟨V, hV⟩ : ∃ V : Array Value, V = (bs (shaN l)).toArray := ⟨_, rfl⟩
    rw [← hV] at hq
    have HV := Lib.hid hV; clear hV
    go_enter Tryd.func3, Tryd.ntmps3
    go_wp2_with fail
    refine S1.out.mono ?_
    rintro _ w1 ⟨rfl, hb1⟩
    rw [← HV.out]
    have HB1 := Lib.hid hb1
    have S2 := Lib.hid (refSum_any A n c l w1 ((HR.out.below hb1).more hb1.size) HL.out (by omega))
    clear hb1
    go_wp2_with fail
    refine S2.out.mono ?_
    rintro _ w2 ⟨rfl, hb2⟩
    rw [← HV.out]
    have HB2 := Lib.hid (HB1.out.trans (hb2.mono HB1.out.size))
    clear hb2
    go_wp2_with fail
    refine (awake_any w2 (HT.out.next HB2.out)).mono ?_
    rintro _ w3 ⟨rfl, hb3⟩
    go_wp2_with fail
    go_ret
    exact ⟨rfl, HB2.out.trans (hb3.mono HB2.out.size)⟩
end Go.Proofs.YtbejglmmcmcleaaDoor
