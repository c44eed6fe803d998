/- The walk of the statement DeltaBack: what is put is read as it was; what is read is put as it was; sums go back from steps, and steps from sums. -/
import Derived.Test.YteadmjgkmjeanaaDoorJ21
import Derived.Test.YteadmjgkmjeanaaDoorDlGet
import Derived.Test.YteadmjgkmjeanaaDoorDlPutGet
import Derived.Test.YteadmjgkmjeanaaDoorSameZ
namespace Go.Proofs.YteadmjgkmjeanaaDoor
open Go.RowKit
set_option linter.unusedVariables false
set_option linter.unusedSimpArgs false
set_option maxRecDepth 100000

theorem back_else (A1 A2 : Option Addr) (n1 c1 n2 c2 : Nat) (k : Int) (w : World) (h : 200 < n1 ∨ 500 < n2 ∨ 1000 < k ∧ k ≤ 65536) :
    Calls Tryd.prog 4 #[.slice A1 n1 c1, .slice A2 n2 c2, .int .i64 k] w fun e w' => e = .returned (.bool true) ∧ Below w.heap.size w w' := by
  by_cases h1 : 200 < n1
  case' pos => clear h
  case' neg =>
    have h := h.resolve_left h1
    by_cases h2 : 500 < n2
    case' pos => clear h
    case' neg =>
      obtain ⟨h3, h4⟩ := h.resolve_left h2
      clear h
  all_goals
    go_enter Tryd.func4, Tryd.ntmps4
    go_wp2_with fail
    refine (awake_any w).mono ?_
    rintro e w1 ⟨rfl, hb⟩
    go_wp2_with fail
    go_ret
    exact ⟨rfl, hb⟩
set_option maxHeartbeats 2000000 in
theorem back_main (A1 A2 : Option Addr) (c1 n2 c2 : Nat) (k : Int) (l : List Int) (lb : List Nat) (w : World) (h1 : Reads w w.heap.size 1 A1 l.length (zs l)) (h2 : Reads w w.heap.size 1 A2 n2 (bs lb)) (hl : ∀ z ∈ l, In64 z) (hlb : ∀ x ∈ lb, x < 256)
    (hn1 : ¬ 200 < l.length) (hn2 : ¬ 500 < n2) (hk : ¬ 1000 < k ∨ ¬ k ≤ 65536) (hmet : Met w) :
    Calls Tryd.prog 4 #[.slice A1 l.length c1, .slice A2 n2 c2, .int .i64 k] w fun e w' => e = .returned (.bool true) ∧ Below w.heap.size w w' := by
  have hdl := dl_length l (by omega)
  have hdb := dl_byte l hl
  obtain ⟨g1, g2⟩ := dl_get l hl (by omega)
  have CP := Lib.hid (fun A c W hr => dlPut_any A l.length c l W hr hl (by omega))
  have CG1 := fun (A : Option Addr) (c : Nat) (W : World) (hr : Reads W W.heap.size 1 A (dl l).length (bs (dl l))) (hm : Met W) => dlGet_any A (dl l).length c (l.length : Int) (dl l) W hr hdb (by omega) hm
  rw [g1, g2] at CG1
  have hsl := stp_length l 0
  have hml := sms_length l 0
  have CS := Lib.hid (fun A c W hr => steps_any A l.length c l W hr (by omega))
  have CM := Lib.hid (fun A c W hr => sums_any A l.length c l W hr (by omega))
  have CSM := fun (A : Option Addr) (c : Nat) (W : World) (hr : Reads W W.heap.size 1 A (sms 0 l).length (zs (sms 0 l))) => steps_any A (sms 0 l).length c (sms 0 l) W hr (by omega)
  have CMS := fun (A : Option Addr) (c : Nat) (W : World) (hr : Reads W W.heap.size 1 A (stp 0 l).length (zs (stp 0 l))) => sums_any A (stp 0 l).length c (stp 0 l) W hr (by omega)
  rw [stp_sms l hl 0] at CSM
  rw [sms_stp l hl 0] at CMS
  have hlb2 : n2 = lb.length := by have := h2.1; rw [bs_length] at this; omega
  subst hlb2
  have CG := Lib.hid (fun A c W hr hm => dlGet_any A lb.length c k lb W hr hlb (by omega) hm)
  obtain ⟨r, hr0⟩ : ∃ r, r = dE lb k := ⟨_, rfl⟩
  have HZ : Hid (r = 0 → 0 ≤ k ∧ k ≤ 65536 ∧ dl (dG lb k) = lb ∧ (dG lb k).length = k.toNat ∧ ∀ z ∈ dG lb k, In64 z) := by rw [hr0]; exact Lib.hid (get_dl lb hlb k)
  obtain ⟨S, hS0⟩ : ∃ S, S = dG lb k := ⟨_, rfl⟩
  rw [← hr0, ← hS0] at CG
  rw [← hS0] at HZ
  obtain ⟨p, hp0⟩ : ∃ p, p = dl l := ⟨_, rfl⟩
  obtain ⟨s, hs0⟩ : ∃ s, s = stp 0 l := ⟨_, rfl⟩
  obtain ⟨m, hm0⟩ : ∃ m, m = sms 0 l := ⟨_, rfl⟩
  rw [← hp0] at CP CG1 hdl
  rw [← hs0] at CS CMS
  rw [← hm0] at CM CSM
  have CG1 := Lib.hid CG1; have CSM := Lib.hid CSM; have CMS := Lib.hid CMS
  clear g1 g2 hr0 hS0 hp0 hs0 hm0 hdb hl hlb hsl hml
  by_cases hk1 : 1000 < k
  case' pos =>
    have hk2 : ¬ k ≤ 65536 := by omega
    clear hk
    go_enter Tryd.func4, Tryd.ntmps4
    go_wp2_with fail
  case' neg =>
    clear hk
    go_enter Tryd.func4, Tryd.ntmps4
    go_wp2_with fail
  all_goals
    refine (CP.out A1 c1 w h1).mono ?_
    rintro e w1 ⟨v1, rfl, hown1, hb1⟩
    obtain ⟨Ax, cx, rfl, hcx, _, rx⟩ := own_slice hown1
    have h11 := h1.next hb1
    have h21 := h2.next hb1
    clear hown1 h1 h2
    go_wp2_with fail
    refine (CG1.out Ax cx w1 rx (hmet.next hb1)).mono ?_
    intro e w2 hN2
    obtain ⟨Ay, cy, rfl, _, _, ry, hb2⟩ := hN2.opened
    have h12 := h11.next hb2
    have h22 := h21.next hb2
    have hb02 := hb1.trans (hb2.mono hb1.size)
    clear hN2 h11 h21 rx hb1 hb2 CP CG1
    go_wp2_with fail
    refine (sameZ_true Ay A1 l.length cy c1 l w2 ry h12 (by omega)).mono ?_
    rintro e w3 ⟨rfl, hd3⟩
    have hn3 := hd3.below (Below.refl w2.heap.size w2)
    have hb03 := hd3.below hb02
    have h13 := h12.next hn3
    have h23 := h22.next hn3
    clear ry h12 h22 hb02 hd3 hn3
    go_wp2_with fail
    refine (CS.out A1 c1 w3 h13).mono ?_
    intro e w4 hN4
    obtain ⟨A4, c4, rfl, _, _, r4, hb4⟩ := hN4.opened
    have h14 := h13.next hb4
    have h24 := h23.next hb4
    have hb04 := hb03.trans (hb4.mono hb03.size)
    clear hN4 h13 h23 hb03 hb4 CS
    go_wp2_with fail
    refine (CMS.out A4 c4 w4 r4).mono ?_
    intro e w5 hN5
    obtain ⟨A5, c5, rfl, _, _, r5, hb5⟩ := hN5.opened
    have h15 := h14.next hb5
    have h25 := h24.next hb5
    have hb05 := hb04.trans (hb5.mono hb04.size)
    clear hN5 h14 h24 hb04 hb5 CMS r4
    go_wp2_with fail
    refine (sameZ_true A5 A1 l.length c5 c1 l w5 r5 h15 (by omega)).mono ?_
    rintro e w6 ⟨rfl, hd6⟩
    have hn6 := hd6.below (Below.refl w5.heap.size w5)
    have hb06 := hd6.below hb05
    have h16 := h15.next hn6
    have h26 := h25.next hn6
    clear r5 h15 h25 hb05 hd6 hn6
    go_wp2_with fail
    refine (CM.out A1 c1 w6 h16).mono ?_
    intro e w7 hN7
    obtain ⟨A7, c7, rfl, _, _, r7, hb7⟩ := hN7.opened
    have h17 := h16.next hb7
    have h27 := h26.next hb7
    have hb07 := hb06.trans (hb7.mono hb06.size)
    clear hN7 h16 h26 hb06 hb7 CM
    go_wp2_with fail
    refine (CSM.out A7 c7 w7 r7).mono ?_
    intro e w8 hN8
    obtain ⟨A8, c8, rfl, _, _, r8, hb8⟩ := hN8.opened
    have h18 := h17.next hb8
    have h28 := h27.next hb8
    have hb08 := hb07.trans (hb8.mono hb07.size)
    clear hN8 h17 h27 hb07 hb8 CSM r7
    go_wp2_with fail
    refine (sameZ_true A8 A1 l.length c8 c1 l w8 r8 h18 (by omega)).mono ?_
    rintro e w9 ⟨rfl, hd9⟩
    have hn9 := hd9.below (Below.refl w8.heap.size w8)
    have hb09 := hd9.below hb08
    have h29 := h28.next hn9
    clear r8 h18 h28 hb08 hd9 hn9
    go_wp2_with fail
    refine (CG.out A2 c2 w9 h29 (hmet.next hb09)).mono ?_
    intro e wa hNa
    obtain ⟨Aa, ca, rfl, _, _, ra, hba⟩ := hNa.opened
    have hb0a := hb09.trans (hba.mono hb09.size)
    have h2a := h29.next hba
    clear hNa h29 hba hb09 CG
    by_cases hrz : r = 0
    · obtain ⟨k0, k1, hpS, hSl, hS64⟩ := HZ.out hrz
      subst hrz
      have HP := Lib.hid hpS
      have HPS := Lib.hid (dlPut_any Aa S.length ca S wa ra hS64 (by omega))
      clear hSl hpS hS64 HZ
      go_wp2_with fail
      refine HPS.out.mono ?_
      rintro e wb ⟨vb_, rfl, hownb, hbb⟩
      rw [HP.out] at hownb
      obtain ⟨Ab, cb, rfl, _, _, rb⟩ := own_slice hownb
      have hb0b := hb0a.trans (hbb.mono hb0a.size)
      have h2b := h2a.next hbb
      clear hownb HPS ra h2a hb0a
      go_wp2_with fail
      refine (same_true Ab A2 lb.length cb lb.length c2 lb wb rb h2b (by omega)).mono ?_
      rintro e wc ⟨rfl, hdc⟩
      have hb0c := hdc.below hb0b
      clear rb h2b hb0b hdc
      go_wp2_with fail
      refine (awake_any wc).mono ?_
      rintro e wd ⟨rfl, hbd⟩
      go_wp2_with fail
      go_ret
      exact ⟨rfl, hb0c.trans (hbd.mono hb0c.size)⟩
    · have q1 : (r == 0) = false := by simp [hrz]
      clear hrz HZ ra h2a
      go_wp2_with fail
      refine (awake_any wa).mono ?_
      rintro e wd ⟨rfl, hbd⟩
      go_wp2_with fail
      go_ret
      exact ⟨rfl, hb0a.trans (hbd.mono hb0a.size)⟩
theorem back_any (A1 A2 : Option Addr) (n1 c1 n2 c2 : Nat) (k : Int) (l : List Int) (lb : List Nat) (w : World) (h1 : Reads w w.heap.size 1 A1 n1 (zs l)) (h2 : Reads w w.heap.size 1 A2 n2 (bs lb)) (hl : ∀ z ∈ l, In64 z) (hlb : ∀ x ∈ lb, x < 256) (hmet : Met w) :
    Calls Tryd.prog 4 #[.slice A1 n1 c1, .slice A2 n2 c2, .int .i64 k] w fun e w' => e = .returned (.bool true) ∧ Below w.heap.size w w' := by
  by_cases h : 200 < n1 ∨ 500 < n2 ∨ 1000 < k ∧ k ≤ 65536
  · exact back_else A1 A2 n1 c1 n2 c2 k w h
  · obtain rfl : n1 = l.length := by have := h1.1; rw [zs_length] at this; omega
    exact back_main A1 A2 c1 n2 c2 k l lb w h1 h2 hl hlb (by omega) (by omega) (by omega) hmet
end Go.Proofs.YteadmjgkmjeanaaDoor
