/- The walk of the statement TextsPuts: any texts have the list and the form that the document says. -/
import Derived.Test.YtppeagjklndidaaJ32
import Derived.Test.YtppeagjklndidaaTxRefPut
import Derived.Test.YtppeagjklndidaaJ46
namespace Go.Proofs.Ytppeagjklndidaa
open Go.RowKit
set_option linter.unusedVariables false
set_option linter.unusedSimpArgs false
set_option maxRecDepth 100000

theorem putsT_else (A : Option Addr) (n c : Nat) (l : List Tx) (w : World) (hr : Reads w w.heap.size 1 A n (ts l)) (h : grB l 100 100 = true) :
    Calls Try.prog 5 #[.slice A n c] w fun e w' => e = .returned (.bool true) ∧ Below w.heap.size w w' := by
  have HG := Lib.hid (great_any A n c 100 100 l w hr (by omega) (by omega) true h.symm)
  clear h hr
  go_enter Try.func5, Try.ntmps5
  go_wp2_with fail
  refine HG.out.mono ?_
  rintro e w' ⟨rfl, rfl⟩
  go_wp2_with fail
  refine (awakeT_any w).mono ?_
  rintro e w1 ⟨rfl, hb⟩
  go_wp2_with fail
  go_ret
  exact ⟨rfl, hb⟩
set_option maxHeartbeats 1000000 in
theorem putsT_main (A : Option Addr) (n c : Nat) (l : List Tx) (w : World) (hr : Reads w w.heap.size 1 A n (ts l)) (h : grB l 100 100 = false) :
    Calls Try.prog 5 #[.slice A n c] w fun e w' => e = .returned (.bool true) ∧ Below w.heap.size w w' := by
  have e1 : l.length = n := by have := hr.1; rw [ts_length] at this; omega
  obtain ⟨hn, hq⟩ := grB_false h
  have HG := Lib.hid (great_any A n c 100 100 l w hr (by omega) (by omega) false h.symm)
  have hdl := txf_length l (by omega) (fun s hs => by have := hq s hs; omega)
  have hll := lstT_length l
  rw [e1] at hll hn
  obtain ⟨D, hD⟩ : ∃ D, D = txf l := ⟨_, rfl⟩
  obtain ⟨S, hS⟩ : ∃ S, S = lstT l := ⟨_, rfl⟩
  have hq2 : ∀ s ∈ l, s.length ≤ 65536 := fun s hs => by have := hq s hs; omega
  have c1 := fun (w1 : World) (h : Reads w1 w1.heap.size 1 A n (ts l)) => txPut_any A n c l w1 h (by omega) hq2
  have c2 := fun (w1 : World) (h : Reads w1 w1.heap.size 1 A n (ts l)) => refTx_any A n c l w1 h (by omega) hq2
  have c3 := fun (w1 : World) (h : Reads w1 w1.heap.size 1 A n (ts l)) => listT_any A n c l w1 h (by omega)
  have c4 := fun (w1 : World) (h : Reads w1 w1.heap.size 1 A n (ts l)) => refListT_any A n c l w1 h (by omega)
  rw [← hD] at hdl c1 c2
  rw [← hS] at c3 c4 hll
  have C1 := Lib.hid c1; have C2 := Lib.hid c2; have C3 := Lib.hid c3; have C4 := Lib.hid c4
  clear c1 c2 c3 c4 hD hS e1 hq hq2 h
  go_enter Try.func5, Try.ntmps5
  go_wp2_with fail
  refine HG.out.mono ?_
  rintro e w' ⟨rfl, rfl⟩
  go_wp2_with fail
  refine (C1.out w hr).mono ?_
  rintro e w1 ⟨v1, rfl, hown1, hb1⟩
  obtain ⟨A1, c1, rfl, _, _, r1⟩ := own_slice hown1
  have q1 := hr.next hb1
  clear hown1
  go_wp2_with fail
  refine (C2.out w1 q1).mono ?_
  intro e2 w2 hN2
  obtain ⟨A2, c2, rfl, _, r2, hb2⟩ := hN2.opened
  have r12 := r1.next hb2
  have q2 := q1.next hb2
  have hb02 := hb1.trans (hb2.mono hb1.size)
  clear hN2 r1 q1 hb1 hb2
  go_wp2_with fail
  refine (same_true A1 A2 _ c1 _ c2 D w2 r12 r2 (by omega)).mono ?_
  rintro e w3 ⟨rfl, hd3⟩
  have hb03 := hd3.below hb02
  have q3 := q2.next (hd3.below (Below.refl _ _))
  clear r12 r2 q2 hb02 hd3
  go_wp2_with fail
  refine (C3.out w3 q3).mono ?_
  intro e3 w4 hN4
  obtain ⟨A4, c4, rfl, _, _, r4, hb4⟩ := hN4.opened
  have q4 := q3.next hb4
  have hb04 := hb03.trans (hb4.mono hb03.size)
  clear q3 hb4 hN4 hb03
  go_wp2_with fail
  refine (C4.out w4 q4).mono ?_
  intro e4 w5 hN5
  obtain ⟨A5, c5, rfl, _, _, r5, hb5⟩ := hN5.opened
  have r45 := r4.next hb5
  have hb05 := hb04.trans (hb5.mono hb04.size)
  clear hN5 r4 q4 hb04 hb5
  go_wp2_with fail
  refine (sameT_true A4 A5 _ c4 c5 S w5 r45 r5 (by omega)).mono ?_
  rintro e w6 ⟨rfl, hd6⟩
  have hb06 := hd6.below hb05
  clear r45 r5 hb05 hd6
  go_wp2_with fail
  refine (awakeT_any w6).mono ?_
  rintro e w10 ⟨rfl, hb10⟩
  go_wp2_with fail
  go_ret
  exact ⟨rfl, hb06.trans (hb10.mono hb06.size)⟩
theorem putsT_any (A : Option Addr) (n c : Nat) (l : List Tx) (w : World) (hr : Reads w w.heap.size 1 A n (ts l)) :
    Calls Try.prog 5 #[.slice A n c] w fun e w' => e = .returned (.bool true) ∧ Below w.heap.size w w' := by
  cases h : grB l 100 100 with
  | true => exact putsT_else A n c l w hr h
  | false => exact putsT_main A n c l w hr h
end Go.Proofs.Ytppeagjklndidaa
