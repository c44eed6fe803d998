/- The walk of the statement DeltaPuts: any numbers have the form, the steps and the sums that the document says. -/
import Derived.Test.YteadmjgkmjeanaaDlAwake
import Derived.Test.YteadmjgkmjeanaaDlRefPut
import Derived.Test.YteadmjgkmjeanaaSameZ
namespace Go.Proofs.Yteadmjgkmjeanaa
open Go.RowKit
set_option linter.unusedVariables false
set_option linter.unusedSimpArgs false
set_option maxRecDepth 100000

theorem puts_else (A : Option Addr) (n c : Nat) (w : World) (h : 200 < n) :
    Calls Try.prog 3 #[.slice A n c] w fun e w' => e = .returned (.bool true) ∧ Below w.heap.size w w' := by
  go_enter Try.func3, Try.ntmps3
  go_wp2_with fail
  refine (awake_any w).mono ?_
  rintro e w1 ⟨rfl, hb⟩
  go_wp2_with fail
  go_ret
  exact ⟨rfl, hb⟩
set_option maxHeartbeats 1000000 in
theorem puts_main (A : Option Addr) (n c : Nat) (l : List Int) (w : World) (hr : Reads w w.heap.size 1 A n (zs l)) (hl : ∀ z ∈ l, In64 z) (hnc : n ≤ c) (hn : n ≤ 200) :
    Calls Try.prog 3 #[.slice A n c] w fun e w' => e = .returned (.bool true) ∧ Below w.heap.size w w' := by
  have e1 : l.length = n := by have := hr.1; rw [zs_length] at this; omega
  have hdl := dl_length l (by omega)
  have hst := stp_length l 0
  have hsm := sms_length l 0
  rw [e1] at hst hsm
  have d1 : decide ((200 : Int) < (n : Int)) = false := by simp; omega
  obtain ⟨D, hD⟩ : ∃ D, D = dl l := ⟨_, rfl⟩
  obtain ⟨S, hS⟩ : ∃ S, S = stp 0 l := ⟨_, rfl⟩
  obtain ⟨M, hM⟩ : ∃ M, M = sms 0 l := ⟨_, rfl⟩
  have c1 := fun (w1 : World) (h : Reads w1 w1.heap.size 1 A n (zs l)) => dlPut_any A n c l w1 h hl (by omega)
  have c2 := fun (w1 : World) (h : Reads w1 w1.heap.size 1 A n (zs l)) => refDl_any A n c l w1 h hl hnc (by omega)
  have c3 := fun (w1 : World) (h : Reads w1 w1.heap.size 1 A n (zs l)) => steps_n A n c l w1 h (by omega)
  have c4 := fun (w1 : World) (h : Reads w1 w1.heap.size 1 A n (zs l)) => refSteps_any A n c l w1 h hl hnc (by omega)
  have c5 := fun (w1 : World) (h : Reads w1 w1.heap.size 1 A n (zs l)) => sums_any A n c l w1 h (by omega)
  have c6 := fun (w1 : World) (h : Reads w1 w1.heap.size 1 A n (zs l)) => refSums_any A n c l w1 h hl hnc (by omega)
  unfold NewZ at c5
  rw [← hD] at hdl c1 c2
  rw [← hS] at c3 c4
  rw [← hM] at c5 c6 hsm
  rw [hsm] at c5
  have C1 := Lib.hid c1; have C2 := Lib.hid c2; have C3 := Lib.hid c3; have C4 := Lib.hid c4; have C5 := Lib.hid c5; have C6 := Lib.hid c6
  clear c1 c2 c3 c4 c5 c6 hD hS hM e1 hl hst hsm
  go_enter Try.func3, Try.ntmps3
  go_wp2_with fail
  refine (C1.out w hr).mono ?_
  rintro e w1 ⟨v1, rfl, hown1, hb1⟩
  obtain ⟨A1, c1, rfl, _, _, r1⟩ := own_slice hown1
  have q1 := hr.next hb1
  clear hown1
  go_wp2_with fail
  refine (C2.out w1 q1).mono ?_
  intro e2 w2 hN2
  obtain ⟨A2, c2, rfl, _, r2, hb2⟩ := hN2.opened
  have r12 := r1.next hb2
  have q2 := q1.next hb2
  have hb02 := hb1.trans (hb2.mono hb1.size)
  clear hN2 r1 q1 hb1 hb2
  go_wp2_with fail
  refine (same_true A1 A2 _ c1 _ c2 D w2 r12 r2 (by omega)).mono ?_
  rintro e w3 ⟨rfl, hd3⟩
  have hb03 := hd3.below hb02
  have q3 := q2.next (hd3.below (Below.refl _ _))
  clear r12 r2 q2 hb02 hd3
  go_wp2_with fail
  refine (C3.out w3 q3).mono ?_
  rintro e w4 ⟨A4, c4, rfl, _, _, r4, hb4⟩
  have q4 := q3.next hb4
  have hb04 := hb03.trans (hb4.mono hb03.size)
  clear q3 hb4
  go_wp2_with fail
  refine (C4.out w4 q4).mono ?_
  rintro e w5 ⟨v5, rfl, hown5, hb5⟩
  obtain ⟨A5, c5, rfl, _, _, r5⟩ := own_slice hown5
  have r45 := r4.next hb5
  have q5 := q4.next hb5
  have hb05 := hb04.trans (hb5.mono hb04.size)
  clear hown5 r4 q4 hb04 hb5
  go_wp2_with fail
  refine (sameZ_true A4 A5 n c4 c5 S w5 r45 r5 (by omega)).mono ?_
  rintro e w6 ⟨rfl, hd6⟩
  have hb06 := hd6.below hb05
  have q6 := q5.next (hd6.below (Below.refl _ _))
  clear r45 r5 q5 hb05 hd6
  go_wp2_with fail
  refine (C5.out w6 q6).mono ?_
  rintro e w7 ⟨v7, rfl, hown7, hb7⟩
  obtain ⟨A7, c7, rfl, _, _, r7⟩ := own_slice hown7
  have q7 := q6.next hb7
  have hb07 := hb06.trans (hb7.mono hb06.size)
  clear hown7 q6 hb06 hb7
  go_wp2_with fail
  refine (C6.out w7 q7).mono ?_
  rintro e w8 ⟨v8, rfl, hown8, hb8⟩
  obtain ⟨A8, c8, rfl, _, _, r8⟩ := own_slice hown8
  have r78 := r7.next hb8
  have hb08 := hb07.trans (hb8.mono hb07.size)
  clear hown8 r7 q7 hb07 hb8
  go_wp2_with fail
  refine (sameZ_true A7 A8 n c7 c8 M w8 r78 r8 (by omega)).mono ?_
  rintro e w9 ⟨rfl, hd9⟩
  have hb09 := hd9.below hb08
  clear r78 r8 hb08 hd9
  go_wp2_with fail
  refine (awake_any w9).mono ?_
  rintro e w10 ⟨rfl, hb10⟩
  go_wp2_with fail
  go_ret
  exact ⟨rfl, hb09.trans (hb10.mono hb09.size)⟩
theorem puts_any (A : Option Addr) (n c : Nat) (l : List Int) (w : World) (hr : Reads w w.heap.size 1 A n (zs l)) (hl : ∀ z ∈ l, In64 z) (hnc : n ≤ c) :
    Calls Try.prog 3 #[.slice A n c] w fun e w' => e = .returned (.bool true) ∧ Below w.heap.size w w' := by
  by_cases h : 200 < n
  · exact puts_else A n c w h
  · exact puts_main A n c l w hr hl hnc (by omega)
end Go.Proofs.Yteadmjgkmjeanaa
