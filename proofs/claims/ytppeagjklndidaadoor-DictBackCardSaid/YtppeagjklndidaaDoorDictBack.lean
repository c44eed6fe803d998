/- The walk of the statement DictBack: what is put is read as it was; what is read is put as it was; the list rises, and has all. -/
import Derived.BigQuiet
import Derived.Deep.QuietTactic
import Derived.Test.YtppeagjklndidaaDoorJ17
import Derived.Test.YtppeagjklndidaaDoorJ27
import Derived.Test.YtppeagjklndidaaDoorDcGet
import Derived.Test.YtppeagjklndidaaDoorDcPutGet
import Derived.Test.YtppeagjklndidaaDoorSameZ
namespace Go.Proofs.YtppeagjklndidaaDoor
open Go.RowKit
set_option linter.unusedVariables false
set_option linter.unusedSimpArgs false
set_option maxRecDepth 100000

theorem back_else (A1 A2 : Option Addr) (n1 c1 n2 c2 : Nat) (k : Int) (w : World) (h : 200 < n1 ∨ 500 < n2 ∨ 1000 < k ∧ k ≤ 65536) :
    Calls Tryd.prog 3 #[.slice A1 n1 c1, .slice A2 n2 c2, .int .i64 k] w fun e w' => e = .returned (.bool true) ∧ Below w.heap.size w w' := by
  by_cases h1 : 200 < n1
  case' pos => clear h
  case' neg =>
    have h := h.resolve_left h1
    by_cases h2 : 500 < n2
    case' pos => clear h
    case' neg =>
      obtain ⟨h3, h4⟩ := h.resolve_left h2
      clear h
  all_goals
    go_enter Tryd.func3, Tryd.ntmps3
    go_wp2_with fail
    refine (awake_any w).mono ?_
    rintro e w1 ⟨rfl, hb⟩
    go_wp2_with fail
    go_ret
    exact ⟨rfl, hb⟩
set_option maxHeartbeats 2000000 in
theorem back_main (A1 A2 : Option Addr) (c1 n2 c2 : Nat) (k : Int) (l : List Int) (lb : List Nat) (w : World) (h1 : Reads w w.heap.size 1 A1 l.length (zs l)) (h2 : Reads w w.heap.size 1 A2 n2 (bs lb)) (hl : ∀ z ∈ l, In64 z) (hlb : ∀ x ∈ lb, x < 256)
    (hn1 : ¬ 200 < l.length) (hn2 : ¬ 500 < n2) (hk : ¬ 1000 < k ∨ ¬ k ≤ 65536) (hmet : Met w) :
    Calls Tryd.prog 3 #[.slice A1 l.length c1, .slice A2 n2 c2, .int .i64 k] w fun e w' => e = .returned (.bool true) ∧ Below w.heap.size w w' := by
  have hdl := dc_length l (by omega)
  have hdb := dc_byte l (by omega) hl
  obtain ⟨g1, g2⟩ := dc_get l hl (by omega)
  have CP := Lib.hid (fun A c W hr => dcPut_any A l.length c l W hr hl (by omega))
  have CG1 := fun (A : Option Addr) (c : Nat) (W : World) (hr : Reads W W.heap.size 1 A (dc l).length (bs (dc l))) (hm : Met W) => dcGet_any A (dc l).length c (l.length : Int) (dc l) W hr hdb (by omega) hm
  rw [g1, g2] at CG1
  have CL := fun (W : World) (hr : Reads W W.heap.size 1 A1 l.length (zs l)) => list_any A1 l.length c1 l W hr hl (by omega)
  have hLl := lstD_length l
  obtain ⟨L, hL⟩ : ∃ L, L = lstD l := ⟨_, rfl⟩
  have HRI : Hid (Rise L) := Lib.hid (by rw [hL]; exact lstD_rise l)
  have HMM : Hid (∀ x ∈ l, x ∈ L) := Lib.hid fun x hx => by rw [hL]; exact (lstD_mem l x).2 hx
  rw [← hL] at CL hLl
  obtain ⟨N, hN⟩ : ∃ N, N = L.length := ⟨_, rfl⟩
  rw [← hN] at CL hLl
  have HN := Lib.hid hN
  have hlb2 : n2 = lb.length := by have := h2.1; rw [bs_length] at this; omega
  subst hlb2
  have CG := Lib.hid (fun A c W hr hm => dcGet_any A lb.length c k lb W hr hlb (by omega) hm)
  obtain ⟨r, hr0⟩ : ∃ r, r = dcE lb k := ⟨_, rfl⟩
  have HZ : Hid (r = 0 → 0 ≤ k ∧ k ≤ 65536 ∧ dc (dcG lb k) = lb ∧ (dcG lb k).length = k.toNat ∧ ∀ z ∈ dcG lb k, In64 z) := by rw [hr0]; exact Lib.hid (get_dc lb hlb k)
  obtain ⟨S, hS0⟩ : ∃ S, S = dcG lb k := ⟨_, rfl⟩
  rw [← hr0, ← hS0] at CG
  rw [← hS0] at HZ
  obtain ⟨p, hp0⟩ : ∃ p, p = dc l := ⟨_, rfl⟩
  rw [← hp0] at CP CG1 hdl
  have CG1 := Lib.hid CG1; have CL := Lib.hid CL
  clear g1 g2 hr0 hS0 hp0 hdb hl hlb hL hN
  by_cases hk1 : 1000 < k
  case' pos =>
    have hk2 : ¬ k ≤ 65536 := by omega
    clear hk
    go_enter Tryd.func3, Tryd.ntmps3
    go_wp2_with fail
  case' neg =>
    clear hk
    go_enter Tryd.func3, Tryd.ntmps3
    go_wp2_with fail
  all_goals
    refine (CP.out A1 c1 w h1).mono ?_
    rintro e w1 ⟨v1, rfl, hown1, hb1⟩
    obtain ⟨Ax, cx, rfl, hcx, _, rx⟩ := own_slice hown1
    have h11 := h1.next hb1
    have h21 := h2.next hb1
    clear hown1 h1 h2
    go_wp2_with fail
    refine (CG1.out Ax cx w1 rx (hmet.next hb1)).mono ?_
    intro e w2 hN2
    obtain ⟨Ay, cy, rfl, _, _, ry, hb2⟩ := hN2.opened
    have h12 := h11.next hb2
    have h22 := h21.next hb2
    have hb02 := hb1.trans (hb2.mono hb1.size)
    clear hN2 h11 h21 rx hb1 hb2 CP CG1
    go_wp2_with fail
    refine (sameZ_true Ay A1 l.length cy c1 l w2 ry h12 (by omega)).mono ?_
    rintro e w3 ⟨rfl, hd3⟩
    have hn3 := hd3.below (Below.refl w2.heap.size w2)
    have hb03 := hd3.below hb02
    have h13 := h12.next hn3
    have h23 := h22.next hn3
    clear ry h12 h22 hb02 hd3 hn3
    go_wp2_with fail
    refine (CL.out w3 h13).mono ?_
    rintro e w4 ⟨v4, rfl, hown4, hb4⟩
    obtain ⟨A4, c4, rfl, _, _, r4⟩ := own_slice hown4
    have h14 := h13.next hb4
    have h24 := h23.next hb4
    have hb04 := hb03.trans (hb4.mono hb03.size)
    clear h13 h23 hb03 hb4 CL hown4
    go_wp2_with fail
    go_loopw [12] (fun s12 wr => ∃ i : Nat, 1 ≤ i ∧ i ≤ N + 1 ∧ s12 = .int .i64 (i : Int) ∧ Drawn w4 wr) (fun i _ => N + 1 - (intOf i).toNat)
    case atStart => exact ⟨1, Nat.le_refl _, by omega, rfl, Drawn.refl _⟩
    case round =>
      obtain ⟨i, hi1, hi2, rfl, hd⟩ := hrel
      have r5 := r4.next (hd.below (Below.refl w4.heap.size w4))
      by_cases hlt : i < N
      · obtain ⟨j, hj⟩ : ∃ j, i = j + 1 := ⟨i - 1, by omega⟩
        have hjN : j < N := by omega
        have hk1' : (i : Int) - 1 = (j : Int) := by omega
        have hk2' : IntKind.i64.wrap (j : Int) = (j : Int) := IntWalk.i64_in _ (by omega)
        obtain ⟨ad, u, rfl, _, hu, hc⟩ := r5.at_ hlt
        obtain ⟨ad2, u2, e2, _, hu2, hc2⟩ := r5.at_ hjN
        injection e2 with e2
        subst e2
        obtain ⟨z, hz, rfl⟩ := zs_at hu
        obtain ⟨y, hy, rfl⟩ := zs_at hu2
        have hyz : ¬ z ≤ y := by
          have h1 := List.pairwise_iff_getElem.1 HRI.out
          obtain ⟨a1, a2⟩ := List.getElem?_eq_some_iff.1 hy
          obtain ⟨b1, b2⟩ := List.getElem?_eq_some_iff.1 hz
          have := h1 j i a1 b1 (by omega)
          omega
        clear hu hu2 hz hy hj
        go_wp2_with fail
        go_quiet (fail)
        go_wp2_with fail
        go_round
        case rel => exact ⟨i + 1, by omega, by omega, by go_num, hd.more _⟩
        case measure => simp [intOf]; omega
      · obtain ⟨wq, hwq⟩ : ∃ x, x = wr := ⟨_, rfl⟩
        rw [← hwq] at hd r5 ⊢
        have hdb := hd.below (Below.refl w4.heap.size w4)
        have h15 := h14.next hdb
        have h25 := h24.next hdb
        have hb05 := hd.below hb04
        clear hwq hdb hd r4 h14 h24 hb04 hi1 hi2
        go_wp2_with fail
        go_loopw [13] (fun s13 wr => ∃ i : Nat, i ≤ l.length ∧ s13 = .int .i64 (i : Int) ∧ Drawn wq wr) (fun i _ => l.length - (intOf i).toNat)
        case atStart => exact ⟨0, Nat.zero_le _, rfl, Drawn.refl _⟩
        case round =>
          obtain ⟨i, hi, rfl, hd⟩ := hrel
          have hdb := hd.below (Below.refl wq.heap.size wq)
          by_cases hlt2 : i < l.length
          · obtain ⟨ad, u, rfl, had, hu, hc⟩ := h15.at_ hlt2
            obtain ⟨z, hz, rfl⟩ := zs_at hu
            have hzc : ∀ W, Drawn wq W → W.cell? (ad.add i) = some (.int .i64 z) := fun W h => ((h.below (Below.refl wq.heap.size wq)).cell (p := ad.add i) (by rw [block_of_add]; exact had)).trans hc
            have HZC := Lib.hid hzc
            have HM := Lib.hid (HMM.out z (List.mem_of_getElem? hz))
            clear hu hz hzc hc had hdb
            go_wp2_with fail
            go_loopw [14, 15] (fun s14 s15 wx => ∃ (j : Nat) (q : Bool), j ≤ N ∧ s15 = .int .i64 (j : Int) ∧ s14 = .bool q ∧ Hid (q = decide (z ∈ L.take j)) ∧ Drawn wq wx) (fun _ j _ => N - (intOf j).toNat)
            case atStart => exact ⟨0, false, Nat.zero_le _, rfl, rfl, Lib.hid (by simp), hd⟩
            case round =>
              clear hd
              obtain ⟨j, q, hj, rfl, rfl, hq, hd⟩ := hrel
              by_cases hlt3 : j < N
              · obtain ⟨ad3, u3, e3, _, hu3, hc3⟩ := (r5.next (hd.below (Below.refl wq.heap.size wq))).at_ hlt3
                subst e3
                obtain ⟨y, hy, rfl⟩ := zs_at hu3
                have hcz := HZC.out _ hd
                have HS : Hid (decide (z ∈ L.take (j + 1)) = (decide (z ∈ L.take j) || decide (y = z))) := Lib.hid (by
                  rw [take_snoc hy]
                  by_cases h1 : z ∈ L.take j
                  · simp [h1]
                  · by_cases h2 : y = z
                    · simp [h2]
                    · have h3 : ¬ z = y := fun e => h2 e.symm
                      simp [h1, h2, h3])
                clear hu3 hy
                cases q with
                | true =>
                  go_wp2_with fail
                  go_quiet (fail)
                  go_wp2_with fail
                  go_round
                  case rel => exact ⟨j + 1, true, by omega, by go_num, rfl, Lib.hid (by rw [HS.out, ← hq.out]; rfl), hd.more _⟩
                  case measure => simp [intOf]; omega
                | false =>
                  by_cases hyz : y = z
                  · subst hyz
                    have q1 : ((y : Int) == y) = true := by simp
                    go_wp2_with fail
                    go_quiet (fail)
                    go_wp2_with fail
                    go_round
                    case rel => exact ⟨j + 1, true, by omega, by go_num, rfl, Lib.hid (by rw [HS.out, ← hq.out]; simp), hd.more _⟩
                    case measure => simp [intOf]; omega
                  · have q1 : ((y : Int) == z) = false := by simp [hyz]
                    have HYZ := Lib.hid hyz
                    clear hyz
                    go_wp2_with fail
                    go_quiet (fail)
                    go_wp2_with fail
                    go_round
                    case rel => exact ⟨j + 1, false, by omega, by go_num, rfl, Lib.hid (by rw [HS.out, ← hq.out]; simp [HYZ.out]), hd.more _⟩
                    case measure => simp [intOf]; omega
              · obtain rfl : j = N := by omega
                have hq1 : q = true := by
                  have h1 := hq.out
                  rw [List.take_of_length_le (by rw [HN.out]; exact Nat.le_refl _)] at h1
                  rw [h1]; simpa using HM.out
                subst hq1
                go_wp2_with fail
                go_round
                case rel => exact ⟨i + 1, by omega, by go_num, hd⟩
                case measure => simp [intOf]; omega
          · obtain ⟨w9, hw9⟩ : ∃ x, x = wr := ⟨_, rfl⟩
            rw [← hw9] at hd hdb ⊢
            have h29 := h25.next hdb
            have hb09 := hd.below hb05
            clear hw9 hd hdb h15 h25 hb05 r5
            go_wp2_with fail
            refine (CG.out A2 c2 w9 h29 (hmet.next hb09)).mono ?_
            intro e wa hNa
            obtain ⟨Aa, ca, rfl, _, _, ra, hba⟩ := hNa.opened
            have hb0a := hb09.trans (hba.mono hb09.size)
            have h2a := h29.next hba
            clear hNa h29 hba hb09 CG
            by_cases hrz : r = 0
            · obtain ⟨k0, k1, hpS, hSl, hS64⟩ := HZ.out hrz
              subst hrz
              have HP := Lib.hid hpS
              have HPS := Lib.hid (dcPut_any Aa S.length ca S wa ra hS64 (by omega))
              clear hSl hpS hS64 HZ
              go_wp2_with fail
              refine HPS.out.mono ?_
              rintro e wb ⟨vb_, rfl, hownb, hbb⟩
              rw [HP.out] at hownb
              obtain ⟨Ab, cb, rfl, _, _, rb⟩ := own_slice hownb
              have hb0b := hb0a.trans (hbb.mono hb0a.size)
              have h2b := h2a.next hbb
              clear hownb HPS ra h2a hb0a
              go_wp2_with fail
              refine (same_true Ab A2 lb.length cb lb.length c2 lb wb rb h2b (by omega)).mono ?_
              rintro e wc ⟨rfl, hdc⟩
              have hb0c := hdc.below hb0b
              clear rb h2b hb0b hdc
              go_wp2_with fail
              refine (awake_any wc).mono ?_
              rintro e wd ⟨rfl, hbd⟩
              go_wp2_with fail
              go_ret
              exact ⟨rfl, hb0c.trans (hbd.mono hb0c.size)⟩
            · have q1 : (r == 0) = false := by simp [hrz]
              clear hrz HZ ra h2a
              go_wp2_with fail
              refine (awake_any wa).mono ?_
              rintro e wd ⟨rfl, hbd⟩
              go_wp2_with fail
              go_ret
              exact ⟨rfl, hb0a.trans (hbd.mono hb0a.size)⟩
theorem back_any (A1 A2 : Option Addr) (n1 c1 n2 c2 : Nat) (k : Int) (l : List Int) (lb : List Nat) (w : World) (h1 : Reads w w.heap.size 1 A1 n1 (zs l)) (h2 : Reads w w.heap.size 1 A2 n2 (bs lb)) (hl : ∀ z ∈ l, In64 z) (hlb : ∀ x ∈ lb, x < 256) (hmet : Met w) :
    Calls Tryd.prog 3 #[.slice A1 n1 c1, .slice A2 n2 c2, .int .i64 k] w fun e w' => e = .returned (.bool true) ∧ Below w.heap.size w w' := by
  by_cases h : 200 < n1 ∨ 500 < n2 ∨ 1000 < k ∧ k ≤ 65536
  · exact back_else A1 A2 n1 c1 n2 c2 k w h
  · obtain rfl : n1 = l.length := by have := h1.1; rw [zs_length] at this; omega
    exact back_main A1 A2 c1 n2 c2 k l lb w h1 h2 hl hlb (by omega) (by omega) (by omega) hmet
end Go.Proofs.YtppeagjklndidaaDoor
