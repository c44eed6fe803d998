/- The walk of FramePuts: any part has the frame that the document says. -/
import Derived.Test.YtpibekpddbhojaaDoorAwake04
namespace Go.Proofs.YtpibekpddbhojaaDoor
open Go.RowKit
set_option linter.unusedVariables false
set_option maxRecDepth 100000

set_option maxHeartbeats 1000000 in
theorem framePuts_any (A : Option Addr) (n c : Nat) (p : List Nat) (w : World) (hm : Met w) (hr : Reads w w.heap.size 1 A n (bs p)) (hp : ∀ b ∈ p, b < 256) :
    Calls Tryd.prog 3 #[.slice A n c] w fun e w' => e = .returned (.bool true) ∧ Below w.heap.size w w' := by
  by_cases hbig : 2000 < n
  · go_enter Tryd.func3, Tryd.ntmps3
    go_wp2_with fail
    refine (awake_any w hm).mono ?_
    rintro e w1 ⟨rfl, hb1⟩
    go_wp2_with fail
    go_ret
    exact ⟨rfl, hb1⟩
  · have HP := Lib.hid hp; clear hp
    have e1 := fz_len hr
    have hfl := fr_length p
    rw [e1] at hfl
    have HFL := Lib.hid hfl; clear hfl
    clear e1
    go_enter Tryd.func3, Tryd.ntmps3
    go_wp2_with fail
    refine (put_any A n c p w hr HP.out (by omega)).mono ?_
    rintro e w1 ⟨v1, rfl, hown1, hb1⟩
    obtain ⟨A1, c1, rfl, hc1, _, hr1⟩ := own_slice hown1
    rw [HFL.out] at hr1 hc1 ⊢
    clear hown1
    go_wp2_with fail
    refine (refPut_any A n c p w1 ((hr.below hb1).more hb1.size) HP.out (by omega)).mono ?_
    rintro e w2 ⟨v2, rfl, hown2, hb2⟩
    obtain ⟨A2, c2, rfl, _, _, hr2⟩ := own_slice hown2
    clear hown2
    go_wp2_with fail
    refine (same_true A1 A2 (8 + n) c1 (8 + n) c2 (fr p) w2 ((hr1.below hb2).more hb2.size) hr2 (by omega)).mono ?_
    rintro e w3 ⟨rfl, hd3⟩
    have hb3 := hd3.below (hb1.trans (hb2.mono hb1.size))
    go_wp2_with fail
    refine (awake_any w3 (hm.next hb3)).mono ?_
    rintro e w4 ⟨rfl, hb4⟩
    go_wp2_with fail
    go_ret
    exact ⟨rfl, hb3.trans (hb4.mono hb3.size)⟩
end Go.Proofs.YtpibekpddbhojaaDoor
