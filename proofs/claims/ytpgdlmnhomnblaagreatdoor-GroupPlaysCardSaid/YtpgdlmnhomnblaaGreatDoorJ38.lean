import Derived.Deep.RegionLaw
import Derived.Test.YtpgdlmnhomnblaaGreatDoorDcRefList
import Derived.Test.YtpgdlmnhomnblaaGreatDoorJ34
import Derived.Test.YtpgdlmnhomnblaaGreatDoorJ36
import Derived.Test.YtpgdlmnhomnblaaGreatDoorJ12
import Derived.Test.YtpgdlmnhomnblaaGreatDoorJ6
import Derived.Test.YtpgdlmnhomnblaaGreatDoorJ5
import Derived.Test.YtpgdlmnhomnblaaGreatDoorJ10
import Derived.Test.YtpgdlmnhomnblaaGreatDoorJ35
import Derived.Test.YtpgdlmnhomnblaaGreatDoorJ16
import Derived.BigQuiet
import Derived.Deep.QuietTactic
import Derived.Test.YtpgdlmnhomnblaaGreatDoorJ7
import Derived.Test.YtpgdlmnhomnblaaGreatDoorJ17
namespace Go.Proofs.YtpgdlmnhomnblaaGreatDoor
open Go.RowKit
set_option linter.unusedVariables false
set_option linter.unusedSimpArgs false
set_option maxRecDepth 100000
def atD (p k : Nat) : List Nat := if p < k then [p] else []
theorem atD_zero (p : Nat) : atD p 0 = [] := by unfold atD; rw [if_neg (by omega)]
theorem atD_all {p k : Nat} (h : p < k) : atD p k = [p] := by unfold atD; rw [if_pos h]
theorem atD_hit (k : Nat) : atD k k = [] ∧ atD k (k + 1) = [k] := ⟨by unfold atD; rw [if_neg (by omega)], by unfold atD; rw [if_pos (by omega)]⟩
theorem atD_miss {p k : Nat} (h : p ≠ k) : atD p (k + 1) = atD p k := by
  unfold atD
  by_cases h1 : p < k
  · rw [if_pos h1, if_pos (by omega)]
  · rw [if_neg h1, if_neg (by omega)]
theorem plcD_step {l : List Int} {k : Nat} {z : Int} (h : l[k]? = some z) : (plcD l).take (k + 1) = (plcD l).take k ++ [posD (lstD l) z] := take_snoc (by unfold plcD; rw [List.getElem?_map, h]; rfl)
set_option maxHeartbeats 2000000 in
theorem refDc_any (A : Option Addr) (n c : Nat) (l : List Int) (w : World) (hr : Reads w w.heap.size 1 A n (zs l)) (hl : ∀ x ∈ l, In64 x) (hn : n ≤ 65536) :
    Calls Tryz.prog 157 #[.slice A n c] w (New w (bs (dc l)) (dc l).length) := by
  obtain ⟨i0, hi0, hz0, hz1, hz2⟩ := info_parts info_u8
  obtain ⟨i1, hi1, hy0, hy1, hy2⟩ := info_parts info_u64
  have e1 : l.length = n := by have := hr.1; rw [zs_length] at this; omega
  have E1 := Lib.hid e1
  have hLl := lstD_length l
  rw [e1] at hLl
  have hcl := refList_any A n c l w hr hn
  obtain ⟨L, hL⟩ : ∃ L, L = lstD l := ⟨_, rfl⟩
  obtain ⟨N, hN⟩ : ∃ N, N = L.length := ⟨_, rfl⟩
  have HRI : Hid (Rise L) := Lib.hid (by rw [hL]; exact lstD_rise l)
  have HIN : Hid (∀ z ∈ L, In64 z) := Lib.hid (by rw [hL]; exact lstD_in hl)
  have HHL : Hid ((htD L).length = N) := Lib.hid (by rw [htD_length, hN])
  have HHD : Hid (hdD L = vb N ++ vbs (htD L)) := Lib.hid (by rw [hdD_eq, hN])
  have HL := Lib.hid hL
  rw [← hL] at hcl hLl
  rw [← hN] at hcl hLl
  have HC := Lib.hid hcl
  clear hcl e1 hL hN
  go_enter Tryz.func157, Tryz.ntmps157
  go_wp2_with fail
  refine HC.out.mono ?_
  rintro e w1 ⟨v1, rfl, hown1, hb1⟩
  obtain ⟨A1, c1, rfl, hc1, _, r1⟩ := own_slice hown1
  clear hown1
  have hNc : IntKind.u64.wrap (N : Int) = (N : Int) := by rw [u64w]; omega
  go_wp2_with fail
  refine (refVar_any N w1 (by omega)).mono ?_
  rintro e w2 ⟨v2, rfl, hown2, hb2⟩
  go_wp2_with fail
  go_loopw [4, 5] (fun s4 s5 wr => ∃ k : Nat, k ≤ N ∧ s5 = .int .i64 (k : Int) ∧ wr.ownsRow w1.heap.size 5 1 s4 (vb N ++ vbs ((htD L).take k)).length (bs (vb N ++ vbs ((htD L).take k))) ∧ Below w1.heap.size w1 wr) (fun _ i _ => N - (intOf i).toNat)
  case atStart => exact ⟨0, Nat.zero_le _, rfl, by simpa [vbs] using hown2, hb2⟩
  case round =>
    clear hown2 hb2
    obtain ⟨k, hk, rfl, hown, hb⟩ := hrel
    have hsz := hb.size
    have hvl := vbs_length ((htD L).take k)
    have hvn := vb_length N
    have htl : ((htD L).take k).length ≤ k := by rw [List.length_take]; omega
    have hwl : (vb N ++ vbs ((htD L).take k)).length ≤ 655370 := by rw [List.length_append]; omega
    clear hvl hvn htl
    by_cases hlt : k < N
    · obtain ⟨ad, u, rfl, _, hu, hc⟩ := (r1.below hb).at_ hlt
      obtain ⟨z, hz, rfl⟩ := zs_at hu
      have hzin := HIN.out z (List.mem_of_getElem? hz)
      have HZ := Lib.hid hz
      clear hu hz
      by_cases hk0 : k = 0
      · have hzg := (zg_int hzin).2
        have q0 : ((k : Int) == 0) = true := by simp; omega
        have HST : Hid (vbs ((htD L).take (k + 1)) = vbs ((htD L).take k) ++ vb (zg z)) := Lib.hid (vbs_step (by rw [hk0]; exact htD_zero (hk0 ▸ HZ.out)))
        have hc0 : wr.cell? ad = some (.int .i64 z) := by rw [hk0] at hc; simpa [Addr.add] using hc
        have h0N : 0 < N := by omega
        clear hk0 hc
        go_wp2_with fail
        refine (refZigN_any z wr hzin).mono ?_
        rintro e w' ⟨rfl, rfl⟩
        go_wp2_with fail
        refine (refVar_any (zg z) wr hzg).mono ?_
        intro e2 w2' hN2
        obtain ⟨A2, c2, rfl, _, hr2, hb2⟩ := hN2.opened
        clear hN2
        have hg2 : (vb (zg z)).length ≤ 10 := (vb_length (zg z)).2
        have hown2 := own_below hown hb2
        have hb02 := hb.trans (hb2.mono hb.size)
        go_wp2_with (at_builtin
                     refine wpList_append_any _ rfl (.tmp 26) (.tmp 31) _ rfl w1.heap.size 5 i0 _ 1 1 Tryz.underlying66 hi0 hz0 hz1 hz2 rfl (by omega) u4 (vb N ++ vbs ((htD L).take k)).length (bs (vb N ++ vbs ((htD L).take k))) rfl
                       hown2 w2'.heap.size A2 (vb (zg z)).length c2 (bs (vb (zg z))) rfl hr2 (bs_one _) (by unfold maxLen; omega) (by omega) hb02.size ?_
                     intro v3 w3 hown3 hg3 hat3)
        go_round
        case rel =>
          refine ⟨k + 1, by omega, by go_num, ?_, hb02.grown hg3 hb02.size (fun j hj => (hown2.lt j hj).1)⟩
          rw [HST.out, ← List.append_assoc, List.length_append, bs_append]
          exact hown3
        case measure => simp [intOf]; omega
      · obtain ⟨j, hj⟩ : ∃ j, k = j + 1 := ⟨k - 1, by omega⟩
        have hjn : j < N := by omega
        have q0 : ((k : Int) == 0) = false := by simp; omega
        have hk1 : (k : Int) - 1 = (j : Int) := by omega
        have hk2 : IntKind.i64.wrap (j : Int) = (j : Int) := IntWalk.i64_in _ (by omega)
        obtain ⟨ad2, u2, e2, _, hu2, hc1⟩ := (r1.below hb).at_ hjn
        injection e2 with e2
        subst e2
        obtain ⟨y, hy, rfl⟩ := zs_at hu2
        have hyin := HIN.out y (List.mem_of_getElem? hy)
        have hyz : y < z := by
          have h1 := List.pairwise_iff_getElem.1 HRI.out
          obtain ⟨a1, a2⟩ := List.getElem?_eq_some_iff.1 hy
          obtain ⟨b1, b2⟩ := List.getElem?_eq_some_iff.1 HZ.out
          have := h1 j k a1 b1 (by omega)
          omega
        obtain ⟨g, hg⟩ : ∃ g, g = (z - y - 1).toNat := ⟨_, rfl⟩
        have HST : Hid (vbs ((htD L).take (k + 1)) = vbs ((htD L).take k) ++ vb g) := Lib.hid (by
          refine vbs_step ?_
          rw [hg, hj]
          exact htD_succ hy (hj ▸ HZ.out))
        have hgl : g < 18446744073709551616 := by unfold In64 at hyin hzin; omega
        have HX : Hid (IntKind.u64.wrap (IntKind.u64.wrap (IntKind.u64.wrap z - IntKind.u64.wrap y) - 1) = (g : Int)) := Lib.hid (by rw [gap_eq2 hyin hzin hyz, hg])
        have hg10 : (vb g).length ≤ 10 := (vb_length g).2
        clear hu2 hy hg hj hyz hyin hzin
        go_wp2_with fail
        go_region_law (first
          | (refine step_append_any _ rfl (.tmp 33) (.tmp 47) _ rfl w1.heap.size 5 i0 _ 1 1 Tryz.underlying66 hi0 hz0 hz1 hz2 rfl (by omega) u4 (vb N ++ vbs ((htD L).take k)).length (bs (vb N ++ vbs ((htD L).take k))) (by simp [Act.eval, Act.put])
              hown2 w2'.heap.size A2 (vb g).length c2 (bs (vb g)) (by simp [Act.eval, Act.put]) hr2 (bs_one _) (by unfold maxLen; omega) (by omega) hb02.size ?_
             intro v3 w3 hown3 hg3 hat3)
          | (go_simp; rw [HX.out]; go_at_call 190; refine (refVar_any g wr.drew hgl).mono ?_
             intro e2 w2' hN2
             obtain ⟨A2, c2, rfl, _, hr2, hb2⟩ := hN2.opened
             clear hN2
             have hown2 := own_below (show wr.drew.ownsRow _ _ _ _ _ _ from hown) hb2
             have hb02 := (Below.drew hb).trans (hb2.mono hb.size)
             show _))
        all_goals
          go_wp2_with fail
          go_round
          case rel =>
            refine ⟨k + 1, by omega, by go_num, ?_, hb02.grown hg3 hb02.size (fun j hj => (hown2.lt j hj).1)⟩
            rw [HST.out, ← List.append_assoc, List.length_append, bs_append]
            exact hown3
          case measure => simp [intOf]; omega
    · obtain rfl : k = N := by omega
      rw [List.take_of_length_le (by rw [HHL.out]; exact Nat.le_refl _), ← HHD.out] at hown hwl
      obtain ⟨B, hB⟩ : ∃ B, B = wr.heap.size := ⟨_, rfl⟩
      have hb0r := hb1.trans (hb.mono hb1.size)
      have hwB : w.heap.size ≤ B := by rw [hB]; exact hb0r.size
      have h1B : w1.heap.size ≤ B := by rw [hB]; exact hsz
      have HR1 := Lib.hid (fun (W : World) (h : Below B wr W) => ((r1.below hb).more h1B).below h)
      have HBT := Lib.hid (fun (W : World) (h : Below B wr W) => (show Below w.heap.size w W from hb0r.trans (h.mono hwB)))
      have HW1 := Lib.hid hb1.size
      have HOB := Lib.hid (fun (W : World) (h : Below B wr W) => own_below hown (by rw [← hB]; exact h))
      have hlts := hown.lt
      rw [← hB] at hlts
      have HLT := Lib.hid hlts
      have hbB : Below B wr wr := Below.refl _ _
      have hBw : B ≤ wr.heap.size := by rw [hB]; exact Nat.le_refl _
      have HPL : Hid ((plcD l).length = n) := Lib.hid (by rw [plcD_length, E1.out])
      clear hB hb0r r1 hown hb hb1 hlts
      go_wp2_with fail
      go_loopw [6, 7] (fun s6 s7 wx => ∃ i : Nat, i ≤ n ∧ s7 = .int .i64 (i : Int) ∧ wx.ownsRow B 131 1 s6 i (us ((plcD l).take i)) ∧ Below B wr wx ∧ B ≤ wx.heap.size) (fun _ i _ => n - (intOf i).toNat)
      case atStart => exact ⟨0, Nat.zero_le _, rfl, own_nil _ _ _ _, hbB, hBw⟩
      case round =>
        clear hbB hBw
        obtain ⟨i, hi, rfl, hown2, hb2, hBs⟩ := hrel
        by_cases hlt2 : i < n
        · obtain ⟨ad, u, rfl, had, hu, hc⟩ := (hr.below (HBT.out _ hb2)).at_ hlt2
          obtain ⟨z, hz, rfl⟩ := zs_at hu
          have hmem : z ∈ L := by rw [HL.out]; exact (lstD_mem l z).2 (List.mem_of_getElem? hz)
          have HPS : Hid ((plcD l).take (i + 1) = (plcD l).take i ++ [posD L z]) := Lib.hid (by rw [plcD_step hz, HL.out])
          have HCZ := Lib.hid (fun (W : World) (h : Below w.heap.size w W) => ((hr.below h).2 (by omega)))
          have hpos : posD L z < k := by
            have := posD_lt hmem
            rw [← HHL.out, htD_length]; exact this
          have HPA := Lib.hid (posD_at hmem)
          have hzc : ∀ W, Below w.heap.size w W → W.cell? (ad.add i) = some (.int .i64 z) := fun W h => by
            obtain ⟨ad', e, _, h1⟩ := (hr.below h).2 (by omega)
            injection e with e
            subst e
            exact h1 i _ (zs_get hz)
          have HZC := Lib.hid hzc
          obtain ⟨p, hp⟩ : ∃ p, p = posD L z := ⟨_, rfl⟩
          rw [← hp] at hpos HPA HPS
          clear hu hz hmem hzc hc hp had HCZ
          go_wp2_with fail
          go_loopw [6, 8] (fun s6 s8 wy => ∃ j : Nat, j ≤ k ∧ s8 = .int .i64 (j : Int) ∧ wy.ownsRow B 131 1 s6 (i + (atD p j).length) (us ((plcD l).take i ++ atD p j)) ∧ Below B _ wy ∧ B ≤ wy.heap.size) (fun _ j _ => k - (intOf j).toNat)
          case atStart => exact ⟨0, Nat.zero_le _, rfl, by simpa [atD_zero] using hown2, hb2, hBs⟩
          case round =>
            clear hown2 hb2 hBs
            obtain ⟨j, hj, rfl, hown3, hb3, hBs⟩ := hrel
            by_cases hlt3 : j < k
            · obtain ⟨ad3, u3, rfl, _, hu3, hc3⟩ := (HR1.out _ hb3).at_ hlt3
              obtain ⟨x, hx, rfl⟩ := zs_at hu3
              have hcz := HZC.out _ (HBT.out _ hb3)
              have HX := Lib.hid hx
              clear hu3 hx
              by_cases hxz : x = z
              · subst hxz
                have hpj : p = j := rise_inj HRI.out HPA.out HX.out
                subst hpj
                have h1 := (atD_hit p).1
                rw [h1, List.append_nil, List.length_nil, Nat.add_zero] at hown3
                have H2 := Lib.hid (atD_hit p).2
                have q1 : ((x : Int) == x) = true := by simp
                have hjc : IntKind.u64.wrap (p : Int) = (p : Int) := by rw [u64w]; omega
                clear h1
                go_wp2_with fail
                go_quiet (fail)
                go_wp2_with (at_builtin
                             refine wpList_append_any _ rfl (.tmp 70) (.tmp 73) _ rfl B 131 i1 _ 1 8 Tryz.underlying160 hi1 hy0 hy1 hy2 rfl (by omega) u6 i (us ((plcD l).take i)) rfl
                               ((own_drewN hown3 _).alloc _) (wr.heap.size + 1) (some ⟨wr.heap.size, 0, none⟩) 1 1 [.int .u64 (p : Int)] rfl (Reads.new (wr.drewN _) _ _) (one_int _ _) (by unfold maxLen; omega) (by omega) (by simp; omega) ?_
                             intro v4 w4 hown4 hg4 hat4)
                go_round
                case rel =>
                  refine ⟨p + 1, by omega, by go_num, ?_, below_app ((Drawn.one _ _).below hb3) (own_drewN hown3 _) hBs hg4, by have := hg4.size; simp at this; omega⟩
                  rw [H2.out, us_append]
                  exact hown4
                case measure => simp [intOf]; omega
              · have hpj : p ≠ j := fun e => by
                  have h1 := HPA.out
                  rw [e, HX.out] at h1
                  injection h1 with h1
                  exact hxz h1
                have H2 := Lib.hid (atD_miss hpj)
                have q1 : ((x : Int) == z) = false := by simp [hxz]
                go_wp2_with fail
                go_quiet (fail)
                go_wp2_with fail
                go_round
                case rel =>
                  refine ⟨j + 1, by omega, by go_num, ?_, (Drawn.one _ _).below hb3, hBs⟩
                  rw [H2.out]
                  exact hown3
                case measure => simp [intOf]; omega
            · obtain rfl : j = k := by omega
              rw [atD_all hpos, ← HPS.out] at hown3
              go_wp2_with fail
              go_round
              case rel => exact ⟨i + 1, by omega, by go_num, hown3, hb3, hBs⟩
              case measure => simp [intOf]; omega
        · obtain rfl : i = n := by omega
          rw [List.take_of_length_le (by rw [HPL.out]; exact Nat.le_refl _)] at hown2
          obtain ⟨P, hP⟩ : ∃ P, P = plcD l := ⟨_, rfl⟩
          obtain ⟨K, hK⟩ : ∃ K, K = wd P := ⟨_, rfl⟩
          have hKb : blen (k - 1) = K := by rw [hK, hP, wd_plcD, ← HL.out, ← HHL.out, htD_length]
          have hK16 : K ≤ 16 := by rw [hK, hP]; exact wd_plcD_le l (by rw [E1.out]; exact hn)
          have hP64 : ∀ a ∈ P, a < 18446744073709551616 := fun a ha => by
            rw [hP] at ha
            have h1 := plcD_lt l a ha
            have h2 := lstD_length l
            rw [E1.out] at h2
            omega
          have hdp := (dc_parts l (by rw [E1.out]; exact hn)).2
          have HD : Hid (dc l = hdD L ++ [K] ++ packB K P) := Lib.hid (by unfold dc; rw [hK, hP, HL.out])
          rw [← hP] at hown2 hdp
          rw [← hK] at hdp
          have HKB := Lib.hid hKb; have HK := Lib.hid hK; have H64 := Lib.hid hP64
          obtain ⟨A2, c2, rfl, _, _, r2⟩ := own_slice hown2
          have oB := HOB.out _ hb2
          have hb0 := HBT.out _ hb2
          have HLT2 := Lib.hid (fun q (hq : u4.ownBlock = some q) => Nat.lt_of_lt_of_le (HLT.out q hq).2 hBs)
          clear hKb hK hP64 hP hown2
          go_wp2_with fail
          refine (refWidthD_any k wr (by omega)).mono ?_
          rintro e w' ⟨rfl, rfl⟩
          rw [HKB.out]
          go_wp2_with fail
          refine (refPack_fit A2 i c2 P _ K rfl wr r2 H64.out (by omega) (by omega) (by rw [HK.out]; exact Nat.le_refl _)).mono ?_
          rintro e w4 ⟨v4, rfl, hown4, hb4⟩
          obtain ⟨A4, c4, rfl, _, _, _⟩ := own_slice hown4
          have o24 := own_below oB hb4
          have hb04 := hb0.trans (hb4.mono hb0.size)
          have t0 := hb0.size
          have t4 := hb4.size
          have hne : (Value.slice A4 (packB K P).length c4).ownBlock = none ∨ (Value.slice A4 (packB K P).length c4).ownBlock ≠ u4.ownBlock := by
            cases hv : (Value.slice A4 (packB K P).length c4).ownBlock with
            | none => exact .inl rfl
            | some q =>
              refine .inr fun e => ?_
              have h1 := (hown4.lt q hv).1
              have h2 := HLT2.out q e.symm
              omega
          have hw1 : w.heap.size ≤ w1.heap.size := HW1.out
          have hb05 := fun (o : Obj) (w5 : World) (hg : (w4.alloc o).grownBy w5 u4.ownBlock) => below_app hb04 (own_base o24 hw1) hb04.size hg
          clear oB r2
          go_wp2_with (first
            | (at_builtin
               refine wpList_append_any _ rfl (.tmp 84) (.tmp 87) _ rfl w1.heap.size 5 i0 _ 1 1 Tryz.underlying66 hi0 hz0 hz1 hz2 rfl (by omega) u4 (hdD L).length (bs (hdD L)) rfl
                 (o24.alloc _) (w4.heap.size + 1) (some ⟨w4.heap.size, 0, none⟩) 1 1 [.int .u8 (K : Int)] rfl (Reads.new w4 _ _) (one_int _ _) (by unfold maxLen; omega) (by omega) (by simp; omega) ?_
               intro v5 w5 hown5 hg5 hat5
               have o45 := (hown4.alloc (.cells #[.int .u8 (K : Int)] 5)).kept hg5 hne
               have hb5 := hb05 _ _ hg5
               have r4 := Reads.of_own o45)
            | (at_builtin
               refine wpList_append_any _ rfl (.tmp 88) (.tmp 89) _ rfl w1.heap.size 5 i0 _ 1 1 Tryz.underlying66 hi0 hz0 hz1 hz2 rfl (by omega) v5 ((hdD L).length + 1) (bs (hdD L) ++ [.int .u8 (K : Int)]) rfl
                 hown5 w5.heap.size A4 (packB K P).length c4 (bs (packB K P)) rfl r4 (bs_one _) (by unfold maxLen; omega) (by omega) (by have := hg5.size; simp at this; omega) ?_
               intro v6 w6 hown6 hg6 hat6))
          go_ret
          have hb6 := hb5.grown hg6 hb5.size (fun q hq => by have := (hown5.lt q hq).1; omega)
          have hd : bs (hdD L) ++ [.int .u8 (K : Int)] ++ bs (packB K P) = bs (dc l) := by
            rw [HD.out, bs_append, bs_append]; rfl
          have hdl2 : (hdD L).length + 1 + (packB K P).length = (dc l).length := by
            rw [HD.out, List.length_append, List.length_append]; rfl
          rw [hd, hdl2] at hown6
          exact ⟨v6, rfl, own_base hown6 hw1, hb6⟩
end Go.Proofs.YtpgdlmnhomnblaaGreatDoor
namespace Go.Proofs.YtpgdlmnhomnblaaGreatDoor
open Go.RowKit
set_option linter.unusedVariables false
set_option linter.unusedSimpArgs false
set_option maxRecDepth 100000
theorem refFo_nil (A : Option Addr) (c : Nat) (w : World) :
    Calls Tryz.prog 158 #[.slice A 0 c] w (New w (bs (fo [])) (fo []).length) := by
  go_enter Tryz.func158, Tryz.ntmps158
  go_wp2_with fail
  go_ret
  exact ⟨.slice none 0 0, rfl, own_nil _ _ _ _, Below.refl _ _⟩
set_option maxHeartbeats 2000000 in
theorem refFo_main (A : Option Addr) (n c : Nat) (l : List Int) (w : World) (hr : Reads w w.heap.size 1 A n (zs l)) (hl : ∀ x ∈ l, In64 x) (h0 : 0 < n) (hn : n ≤ 65536) :
    Calls Tryz.prog 158 #[.slice A n c] w (New w (bs (fo l)) (fo l).length) := by
  obtain ⟨i0, hi0, hz0, hz1, hz2⟩ := info_parts info_u8
  obtain ⟨i1, hi1, hy0, hy1, hy2⟩ := info_parts info_u64
  have e1 : l.length = n := by have := hr.1; rw [zs_length] at this; omega
  have hne : l ≠ [] := by intro e; subst e; simp at e1; omega
  obtain ⟨ad, u, rfl, _, hu, hc⟩ := hr.at_ h0
  obtain ⟨z0, hz00, rfl⟩ := zs_at hu
  have hc0 : w.cell? ad = some (.int .i64 z0) := by simpa [Addr.add] using hc
  have hm64 := ls_in hl
  have hvl := vb_length (zg (ls l))
  have hzg := (zg_int hm64).2
  have hD64 := dfs_lt hl hm64
  have hK64 := wd_dfs hl
  have hle := fun z (hz : z ∈ l) => ls_le (l := l) z hz
  have hDl := dfs_length (ls l) l
  have hpl : (packB (wd (dfs (ls l) l)) (dfs (ls l) l)).length ≤ 524290 := by have := foB_length hl (by omega); unfold foB at this; rw [List.length_append] at this; omega
  have hfo : fo l = vb (zg (ls l)) ++ [wd (dfs (ls l) l)] ++ packB (wd (dfs (ls l) l)) (dfs (ls l) l) := by rw [fo_ne hne]; unfold foB; simp
  have hstep := fun (k : Nat) (z : Int) (h : l[k]? = some z) => dfs_step (m := ls l) h
  have hall : lsF z0 l n = ls l := by rw [← e1]; exact lsF_all hz00
  obtain ⟨m, hm⟩ : ∃ m, m = ls l := ⟨_, rfl⟩
  rw [← hm] at hm64 hvl hzg hD64 hK64 hle hDl hpl hfo hstep hall
  obtain ⟨D, hD⟩ : ∃ D, D = dfs m l := ⟨_, rfl⟩
  rw [← hD] at hD64 hK64 hDl hpl hfo hstep
  obtain ⟨K, hK⟩ : ∃ K, K = wd D := ⟨_, rfl⟩
  rw [← hK] at hK64 hpl hfo
  rw [e1] at hDl
  have HK := Lib.hid hK; have HL := Lib.hid hl; have HLT := Lib.hid hD64; have HD := Lib.hid hfo; have HS := Lib.hid hstep; have HLE := Lib.hid hle; have HDL := Lib.hid hDl; have HA := Lib.hid hall
  have q0 : ((n : Int) == 0) = false := by simp; omega
  clear hK hl hD64 hfo hstep hle hD hm hDl e1 hall hu hc hz00
  go_enter Tryz.func158, Tryz.ntmps158
  go_wp2_with fail
  go_loop [3, 4] (fun s3 s4 => ∃ (k : Nat) (y : Int), k ≤ n ∧ s4 = .int .i64 (k : Int) ∧ s3 = .int .i64 y ∧ Hid (y = lsF z0 l k)) (fun _ i => n - (intOf i).toNat)
  case atStart => exact ⟨0, z0, Nat.zero_le _, rfl, rfl, Lib.hid rfl⟩
  case round =>
    obtain ⟨k, y, hk, rfl, rfl, hy⟩ := hrel
    by_cases hlt : k < n
    · obtain ⟨ad', u, e', _, hu, hc⟩ := hr.at_ hlt
      injection e' with e'
      subst e'
      obtain ⟨x, hx, rfl⟩ := zs_at hu
      have HX := Lib.hid (lsF_step (z := z0) hx)
      clear hu hx
      go_wp2_with fail
      go_round
      case rel =>
        refine ⟨k + 1, _, by omega, by go_num, rfl, Lib.hid ?_⟩
        rw [HX.out, ← hy.out]
      case measure => simp [intOf]; omega
    · obtain rfl : k = n := by omega
      obtain rfl : m = y := by rw [hy.out, HA.out]
      clear hy hc0
      go_wp2_with fail
      go_loopw [5, 6] (fun s5 s6 wr => ∃ j : Nat, j ≤ k ∧ s6 = .int .i64 (j : Int) ∧ wr.ownsRow w.heap.size 131 1 s5 j (us (D.take j)) ∧ Below w.heap.size w wr) (fun _ i _ => k - (intOf i).toNat)
      case atStart => exact ⟨0, Nat.zero_le _, rfl, own_nil _ _ _ _, Below.refl _ _⟩
      case round =>
        obtain ⟨j, hj, rfl, hown, hb⟩ := hrel
        have hsz := hb.size
        by_cases hlt : j < k
        · obtain ⟨ad', u, e', _, hu, hc⟩ := (hr.below hb).at_ hlt
          injection e' with e'
          subst e'
          obtain ⟨x, hx, rfl⟩ := zs_at hu
          have hx64 := HL.out x (List.mem_of_getElem? hx)
          have hmx := HLE.out x (List.mem_of_getElem? hx)
          have HX := HS.out j x hx
          have hdi := dist_eq hm64 hx64 hmx
          obtain ⟨q, hq⟩ : ∃ q, q = (x - m).toNat := ⟨_, rfl⟩
          rw [← hq] at hdi HX
          have HDI := Lib.hid hdi
          have HX := Lib.hid HX
          clear hu hx hdi hq hmx
          go_wp2_with (at_builtin
                       refine wpList_append_any _ rfl (.tmp 34) (.tmp 43) _ rfl w.heap.size 131 i1 _ 1 8 Tryz.underlying160 hi1 hy0 hy1 hy2 rfl (by omega) u5 j (us (D.take j)) rfl
                         (hown.alloc _) (wr.heap.size + 1) (some ⟨wr.heap.size, 0, none⟩) 1 1 [.int .u64 (IntKind.u64.wrap (IntKind.u64.wrap x - IntKind.u64.wrap m))] rfl (Reads.new wr _ _) (one_int _ _) (by unfold maxLen; omega) (by omega) (by simp; omega) ?_
                       intro v4 w4 hown4 hg4 hat4)
          go_round
          case rel =>
            refine ⟨j + 1, by omega, by go_num, ?_, below_app hb hown hsz hg4⟩
            have h1 := us_snoc [] (D.take j) q _ HDI.out
            simp only [List.nil_append] at h1
            rw [HX.out, ← h1]
            exact hown4
          case measure => simp [intOf]; omega
        · obtain rfl : j = k := by omega
          rw [List.take_of_length_le (by rw [HDL.out]; exact Nat.le_refl _)] at hown
          obtain ⟨A3, c3, rfl, _, _, r3⟩ := own_slice hown
          clear hown hr
          go_wp2_with fail
          refine (refWidth_any A3 j c3 D wr r3 HLT.out (by omega)).mono ?_
          rintro e w' ⟨rfl, rfl⟩
          rw [← HK.out]
          go_wp2_with fail
          refine (refPack_fit A3 j c3 D _ K rfl wr r3 HLT.out (by omega) (by omega) (by rw [HK.out]; exact Nat.le_refl _)).mono ?_
          rintro e w4 ⟨v4, rfl, hown4, hb4⟩
          obtain ⟨A4, c4, rfl, _, _, r4⟩ := own_slice hown4
          have hb04 := hb.trans (hb4.mono hb.size)
          clear r3
          go_wp2_with fail
          refine (refZigN_any m w4 hm64).mono ?_
          rintro e w' ⟨rfl, rfl⟩
          go_wp2_with fail
          refine (refVar_any (zg m) w4 hzg).mono ?_
          rintro e2 w5 ⟨v5, rfl, hown5, hb5⟩
          obtain ⟨A5, c5, rfl, _, _, _⟩ := own_slice hown5
          have hb05 := hb04.trans (hb5.mono hb04.size)
          have o45 := own_below hown4 hb5
          have t5 := hb5.size
          have t0 := hb05.size
          have hne : (Value.slice A4 (packB K D).length c4).ownBlock = none ∨ (Value.slice A4 (packB K D).length c4).ownBlock ≠ (Value.slice A5 (vb (zg m)).length c5).ownBlock := by
            cases hv : (Value.slice A4 (packB K D).length c4).ownBlock with
            | none => exact .inl rfl
            | some q =>
              refine .inr fun e => ?_
              have h1 := (hown4.lt q hv).2
              have h2 := (hown5.lt q e.symm).1
              omega
          have hb06 := fun (o : Obj) (w6 : World) (hg : (w5.alloc o).grownBy w6 (Value.slice A5 (vb (zg m)).length c5).ownBlock) => below_app hb05 (own_base hown5 hb04.size) (hb05.size) hg
          clear r4
          go_wp2_with (first
            | (at_builtin
               refine wpList_append_any _ rfl (.tmp 55) (.tmp 58) _ rfl w4.heap.size 5 i0 _ 1 1 Tryz.underlying66 hi0 hz0 hz1 hz2 rfl (by omega) (.slice A5 (vb (zg m)).length c5) (vb (zg m)).length (bs (vb (zg m))) rfl
                 (hown5.alloc _) (w5.heap.size + 1) (some ⟨w5.heap.size, 0, none⟩) 1 1 [.int .u8 (K : Int)] rfl (Reads.new w5 _ _) (one_int _ _) (by unfold maxLen; omega) (by omega) (by simp; omega) ?_
               intro v6 w6 hown6 hg6 hat6
               have o46 := (o45.alloc (.cells #[.int .u8 (K : Int)] 5)).kept hg6 hne
               have hb6 := hb06 _ _ hg6
               have r6 := Reads.of_own o46)
            | (at_builtin
               refine wpList_append_any _ rfl (.tmp 59) (.tmp 60) _ rfl w4.heap.size 5 i0 _ 1 1 Tryz.underlying66 hi0 hz0 hz1 hz2 rfl (by omega) v6 ((vb (zg m)).length + 1) (bs (vb (zg m)) ++ [.int .u8 (K : Int)]) rfl
                 hown6 w6.heap.size A4 (packB K D).length c4 (bs (packB K D)) rfl r6 (bs_one _) (by unfold maxLen; omega) (by omega) (by have := hg6.size; simp at this; omega) ?_
               intro v7 w7 hown7 hg7 hat7))
          go_ret
          have hb7 := hb6.grown hg7 hb6.size (fun q hq => by have := (hown6.lt q hq).1; have := hb04.size; omega)
          have hd : bs (vb (zg m)) ++ [.int .u8 (K : Int)] ++ bs (packB K D) = bs (fo l) := by
            rw [HD.out, bs_append, bs_append]; rfl
          have hdl2 : (vb (zg m)).length + 1 + (packB K D).length = (fo l).length := by
            rw [HD.out, List.length_append, List.length_append]; rfl
          rw [hd, hdl2] at hown7
          exact ⟨v7, rfl, own_base hown7 hb04.size, hb7⟩
theorem refFo_any (A : Option Addr) (n c : Nat) (l : List Int) (w : World) (hr : Reads w w.heap.size 1 A n (zs l)) (hl : ∀ x ∈ l, In64 x) (hn : n ≤ 65536) :
    Calls Tryz.prog 158 #[.slice A n c] w (New w (bs (fo l)) (fo l).length) := by
  have e1 : l.length = n := by have := hr.1; rw [zs_length] at this; omega
  rcases Nat.eq_zero_or_pos n with h0 | h0
  · subst h0
    rw [List.eq_nil_of_length_eq_zero e1]
    exact refFo_nil A c w
  · exact refFo_main A n c l w hr hl h0 hn
end Go.Proofs.YtpgdlmnhomnblaaGreatDoor
namespace Go.Proofs.YtpgdlmnhomnblaaGreatDoor
open Go.RowKit
set_option linter.unusedVariables false
set_option linter.unusedSimpArgs false
set_option maxRecDepth 100000
def isT (L : List Tx) (s : Tx) : Bool := decide (L[whT L s]? = some s)
set_option maxHeartbeats 1000000 in
theorem refPlace_any (A : Option Addr) (n c : Nat) (L : List Tx) (s : Tx) (w : World) (hr : Reads w w.heap.size 1 A n (ts L)) (hn : n ≤ 140737488355328) :
    Calls Tryz.prog 200 #[.slice A n c, .string ⟨s.toArray⟩] w fun e w' => e = .returned (.tuple #[.int .i64 (whT L s : Int), .bool (isT L s)]) ∧ Drawn w w' := by
  have e1 : L.length = n := by have := hr.1; rw [ts_length] at this; omega
  have HE : Hid (L.length = n) := Lib.hid e1
  clear e1
  go_enter Tryz.func200, Tryz.ntmps200
  go_wp2_with fail
  go_loop [6] (fun i => ∃ k : Nat, k ≤ n ∧ i = .int .i64 (k : Int) ∧ Hid (∀ (j : Nat) (y : Tx), j < k → L[j]? = some y → tlt y s)) (fun i => n - (intOf i).toNat)
  case atStart => exact ⟨0, Nat.zero_le _, rfl, Lib.hid (fun j y h => absurd h (by omega))⟩
  case round =>
    obtain ⟨k, hk, rfl, HA⟩ := hrel
    by_cases hlt : k < n
    · obtain ⟨ad, u, rfl, _, hu, hc⟩ := hr.at_ hlt
      obtain ⟨y, hy, rfl⟩ := ts_at hu
      by_cases hys : tlt y s
      · have q1 := less_of hys
        have HA2 : Hid (∀ (j : Nat) (y : Tx), j < k + 1 → L[j]? = some y → tlt y s) := Lib.hid fun j x hj hx => by
          by_cases h : j = k
          · subst h; rw [hy] at hx; injection hx with hx; subst hx; exact hys
          · exact HA.out j x (by omega) hx
        clear hu hy hys
        go_wp2_with fail
        go_round
        case rel => exact ⟨k + 1, by omega, by go_num, HA2⟩
        case measure => simp [intOf]; omega
      · have q1 := less_not hys
        have HW : Hid (whT L s = k) := Lib.hid (whT_of (by rw [HE.out]; exact hk) HA.out (fun x hx => by rw [hy] at hx; injection hx with hx; subst hx; exact hys))
        have HI : Hid (isT L s = (y == s)) := Lib.hid (by
          unfold isT
          rw [HW.out, hy]
          by_cases h : y = s
          · simp [h]
          · simp [h])
        clear hu hy hys
        go_wp2_with fail
        go_quiet (fail)
        go_wp2_with fail
        go_ret2
        exact ⟨by rw [HW.out, HI.out]; rfl, Drawn.one _ _⟩
    · obtain rfl : k = n := by omega
      have HW : Hid (whT L s = k) := Lib.hid (whT_of (by rw [HE.out]; exact hk) HA.out (fun x hx => by have := (List.getElem?_eq_some_iff.1 hx).1; have := HE.out; omega))
      have HI : Hid (isT L s = false) := Lib.hid (by
        unfold isT
        rw [HW.out, List.getElem?_eq_none (by rw [HE.out]; exact Nat.le_refl _)]
        simp)
      have d1 : decide ((k : Int) < (k : Int)) = false := by simp
      go_wp2_with fail
      go_quiet (fail)
      go_wp2_with fail
      go_ret2
      exact ⟨by rw [HW.out, HI.out]; rfl, Drawn.one _ _⟩
end Go.Proofs.YtpgdlmnhomnblaaGreatDoor
