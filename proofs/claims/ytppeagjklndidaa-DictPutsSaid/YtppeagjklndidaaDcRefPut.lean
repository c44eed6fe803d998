/- The document's form by a list. -/
import Derived.Deep.RegionLaw
import Derived.Test.YtppeagjklndidaaDcRefList
import Derived.Test.YtppeagjklndidaaRefZigN
import Derived.Test.YtppeagjklndidaaRefPVar
import Derived.Test.YtppeagjklndidaaRefPackF
import Derived.Test.YtppeagjklndidaaMem64
import Derived.Test.YtppeagjklndidaaOpened
namespace Go.Proofs.Ytppeagjklndidaa
open Go.RowKit
set_option linter.unusedVariables false
set_option linter.unusedSimpArgs false
set_option maxRecDepth 100000

/-- The places laid when 'k' of the list have been looked at. -/
def atD (p k : Nat) : List Nat := if p < k then [p] else []
theorem atD_zero (p : Nat) : atD p 0 = [] := by unfold atD; rw [if_neg (by omega)]
theorem atD_all {p k : Nat} (h : p < k) : atD p k = [p] := by unfold atD; rw [if_pos h]
theorem atD_hit (k : Nat) : atD k k = [] ∧ atD k (k + 1) = [k] := ⟨by unfold atD; rw [if_neg (by omega)], by unfold atD; rw [if_pos (by omega)]⟩
theorem atD_miss {p k : Nat} (h : p ≠ k) : atD p (k + 1) = atD p k := by
  unfold atD
  by_cases h1 : p < k
  · rw [if_pos h1, if_pos (by omega)]
  · rw [if_neg h1, if_neg (by omega)]
theorem plcD_step {l : List Int} {k : Nat} {z : Int} (h : l[k]? = some z) : (plcD l).take (k + 1) = (plcD l).take k ++ [posD (lstD l) z] := take_snoc (by unfold plcD; rw [List.getElem?_map, h]; rfl)
set_option maxHeartbeats 2000000 in
theorem refDc_any (A : Option Addr) (n c : Nat) (l : List Int) (w : World) (hr : Reads w w.heap.size 1 A n (zs l)) (hl : ∀ x ∈ l, In64 x) (hn : n ≤ 65536) :
    Calls Try.prog 10 #[.slice A n c] w (New w (bs (dc l)) (dc l).length) := by
  obtain ⟨i0, hi0, hz0, hz1, hz2⟩ := info_parts info_u8
  obtain ⟨i1, hi1, hy0, hy1, hy2⟩ := info_parts info_u64
  have e1 : l.length = n := by have := hr.1; rw [zs_length] at this; omega
  have E1 := Lib.hid e1
  have hLl := lstD_length l
  rw [e1] at hLl
  have hcl := refList_any A n c l w hr hn
  obtain ⟨L, hL⟩ : ∃ L, L = lstD l := ⟨_, rfl⟩
  obtain ⟨N, hN⟩ : ∃ N, N = L.length := ⟨_, rfl⟩
  have HRI : Hid (Rise L) := Lib.hid (by rw [hL]; exact lstD_rise l)
  have HIN : Hid (∀ z ∈ L, In64 z) := Lib.hid (by rw [hL]; exact lstD_in hl)
  have HHL : Hid ((htD L).length = N) := Lib.hid (by rw [htD_length, hN])
  have HHD : Hid (hdD L = vb N ++ vbs (htD L)) := Lib.hid (by rw [hdD_eq, hN])
  have HL := Lib.hid hL
  rw [← hL] at hcl hLl
  rw [← hN] at hcl hLl
  have HC := Lib.hid hcl
  clear hcl e1 hL hN
  go_enter Try.func10, Try.ntmps10
  go_wp2_with fail
  refine HC.out.mono ?_
  rintro e w1 ⟨v1, rfl, hown1, hb1⟩
  obtain ⟨A1, c1, rfl, hc1, _, r1⟩ := own_slice hown1
  clear hown1
  have hNc : IntKind.u64.wrap (N : Int) = (N : Int) := by rw [u64w]; omega
  go_wp2_with fail
  refine (refVar_any N w1 (by omega)).mono ?_
  rintro e w2 ⟨v2, rfl, hown2, hb2⟩
  go_wp2_with fail
  go_loopw [4, 5] (fun s4 s5 wr => ∃ k : Nat, k ≤ N ∧ s5 = .int .i64 (k : Int) ∧ wr.ownsRow w1.heap.size 5 1 s4 (vb N ++ vbs ((htD L).take k)).length (bs (vb N ++ vbs ((htD L).take k))) ∧ Below w1.heap.size w1 wr) (fun _ i _ => N - (intOf i).toNat)
  case atStart => exact ⟨0, Nat.zero_le _, rfl, by simpa [vbs] using hown2, hb2⟩
  case round =>
    clear hown2 hb2
    obtain ⟨k, hk, rfl, hown, hb⟩ := hrel
    have hsz := hb.size
    have hvl := vbs_length ((htD L).take k)
    have hvn := vb_length N
    have htl : ((htD L).take k).length ≤ k := by rw [List.length_take]; omega
    have hwl : (vb N ++ vbs ((htD L).take k)).length ≤ 655370 := by rw [List.length_append]; omega
    clear hvl hvn htl
    by_cases hlt : k < N
    · obtain ⟨ad, u, rfl, _, hu, hc⟩ := (r1.below hb).at_ hlt
      obtain ⟨z, hz, rfl⟩ := zs_at hu
      have hzin := HIN.out z (List.mem_of_getElem? hz)
      have HZ := Lib.hid hz
      clear hu hz
      by_cases hk0 : k = 0
      · have hzg := (zg_int hzin).2
        have q0 : ((k : Int) == 0) = true := by simp; omega
        have HST : Hid (vbs ((htD L).take (k + 1)) = vbs ((htD L).take k) ++ vb (zg z)) := Lib.hid (vbs_step (by rw [hk0]; exact htD_zero (hk0 ▸ HZ.out)))
        have hc0 : wr.cell? ad = some (.int .i64 z) := by rw [hk0] at hc; simpa [Addr.add] using hc
        have h0N : 0 < N := by omega
        clear hk0 hc
        go_wp2_with fail
        refine (refZigN_any z wr hzin).mono ?_
        rintro e w' ⟨rfl, rfl⟩
        go_wp2_with fail
        refine (refVar_any (zg z) wr hzg).mono ?_
        intro e2 w2' hN2
        obtain ⟨A2, c2, rfl, _, hr2, hb2⟩ := hN2.opened
        clear hN2
        have hg2 : (vb (zg z)).length ≤ 10 := (vb_length (zg z)).2
        have hown2 := own_below hown hb2
        have hb02 := hb.trans (hb2.mono hb.size)
        go_wp2_with (at_builtin
                     refine wpList_append_any _ rfl (.tmp 26) (.tmp 31) _ rfl w1.heap.size 5 i0 _ 1 1 Try.underlying24 hi0 hz0 hz1 hz2 rfl (by omega) u4 (vb N ++ vbs ((htD L).take k)).length (bs (vb N ++ vbs ((htD L).take k))) rfl
                       hown2 w2'.heap.size A2 (vb (zg z)).length c2 (bs (vb (zg z))) rfl hr2 (bs_one _) (by unfold maxLen; omega) (by omega) hb02.size ?_
                     intro v3 w3 hown3 hg3 hat3)
        go_round
        case rel =>
          refine ⟨k + 1, by omega, by go_num, ?_, hb02.grown hg3 hb02.size (fun j hj => (hown2.lt j hj).1)⟩
          rw [HST.out, ← List.append_assoc, List.length_append, bs_append]
          exact hown3
        case measure => simp [intOf]; omega
      · obtain ⟨j, hj⟩ : ∃ j, k = j + 1 := ⟨k - 1, by omega⟩
        have hjn : j < N := by omega
        have q0 : ((k : Int) == 0) = false := by simp; omega
        have hk1 : (k : Int) - 1 = (j : Int) := by omega
        have hk2 : IntKind.i64.wrap (j : Int) = (j : Int) := IntWalk.i64_in _ (by omega)
        obtain ⟨ad2, u2, e2, _, hu2, hc1⟩ := (r1.below hb).at_ hjn
        injection e2 with e2
        subst e2
        obtain ⟨y, hy, rfl⟩ := zs_at hu2
        have hyin := HIN.out y (List.mem_of_getElem? hy)
        have hyz : y < z := by
          have h1 := List.pairwise_iff_getElem.1 HRI.out
          obtain ⟨a1, a2⟩ := List.getElem?_eq_some_iff.1 hy
          obtain ⟨b1, b2⟩ := List.getElem?_eq_some_iff.1 HZ.out
          have := h1 j k a1 b1 (by omega)
          omega
        obtain ⟨g, hg⟩ : ∃ g, g = (z - y - 1).toNat := ⟨_, rfl⟩
        have HST : Hid (vbs ((htD L).take (k + 1)) = vbs ((htD L).take k) ++ vb g) := Lib.hid (by
          refine vbs_step ?_
          rw [hg, hj]
          exact htD_succ hy (hj ▸ HZ.out))
        have hgl : g < 18446744073709551616 := by unfold In64 at hyin hzin; omega
        have HX : Hid (IntKind.u64.wrap (IntKind.u64.wrap (IntKind.u64.wrap z - IntKind.u64.wrap y) - 1) = (g : Int)) := Lib.hid (by rw [gap_eq2 hyin hzin hyz, hg])
        have hg10 : (vb g).length ≤ 10 := (vb_length g).2
        clear hu2 hy hg hj hyz hyin hzin
        go_wp2_with fail
        go_region_law (first
          | (refine step_append_any _ rfl (.tmp 33) (.tmp 47) _ rfl w1.heap.size 5 i0 _ 1 1 Try.underlying24 hi0 hz0 hz1 hz2 rfl (by omega) u4 (vb N ++ vbs ((htD L).take k)).length (bs (vb N ++ vbs ((htD L).take k))) (by simp [Act.eval, Act.put])
              hown2 w2'.heap.size A2 (vb g).length c2 (bs (vb g)) (by simp [Act.eval, Act.put]) hr2 (bs_one _) (by unfold maxLen; omega) (by omega) hb02.size ?_
             intro v3 w3 hown3 hg3 hat3)
          | (go_simp; rw [HX.out]; go_at_call 27; refine (refVar_any g wr.drew hgl).mono ?_
             intro e2 w2' hN2
             obtain ⟨A2, c2, rfl, _, hr2, hb2⟩ := hN2.opened
             clear hN2
             have hown2 := own_below (show wr.drew.ownsRow _ _ _ _ _ _ from hown) hb2
             have hb02 := (Below.drew hb).trans (hb2.mono hb.size)
             show _))
        all_goals
          go_wp2_with fail
          go_round
          case rel =>
            refine ⟨k + 1, by omega, by go_num, ?_, hb02.grown hg3 hb02.size (fun j hj => (hown2.lt j hj).1)⟩
            rw [HST.out, ← List.append_assoc, List.length_append, bs_append]
            exact hown3
          case measure => simp [intOf]; omega
    · obtain rfl : k = N := by omega
      rw [List.take_of_length_le (by rw [HHL.out]; exact Nat.le_refl _), ← HHD.out] at hown hwl
      obtain ⟨B, hB⟩ : ∃ B, B = wr.heap.size := ⟨_, rfl⟩
      have hb0r := hb1.trans (hb.mono hb1.size)
      have hwB : w.heap.size ≤ B := by rw [hB]; exact hb0r.size
      have h1B : w1.heap.size ≤ B := by rw [hB]; exact hsz
      have HR1 := Lib.hid (fun (W : World) (h : Below B wr W) => ((r1.below hb).more h1B).below h)
      have HBT := Lib.hid (fun (W : World) (h : Below B wr W) => (show Below w.heap.size w W from hb0r.trans (h.mono hwB)))
      have HW1 := Lib.hid hb1.size
      have HOB := Lib.hid (fun (W : World) (h : Below B wr W) => own_below hown (by rw [← hB]; exact h))
      have hlts := hown.lt
      rw [← hB] at hlts
      have HLT := Lib.hid hlts
      have hbB : Below B wr wr := Below.refl _ _
      have hBw : B ≤ wr.heap.size := by rw [hB]; exact Nat.le_refl _
      have HPL : Hid ((plcD l).length = n) := Lib.hid (by rw [plcD_length, E1.out])
      clear hB hb0r r1 hown hb hb1 hlts
      go_wp2_with fail
      go_loopw [6, 7] (fun s6 s7 wx => ∃ i : Nat, i ≤ n ∧ s7 = .int .i64 (i : Int) ∧ wx.ownsRow B 48 1 s6 i (us ((plcD l).take i)) ∧ Below B wr wx ∧ B ≤ wx.heap.size) (fun _ i _ => n - (intOf i).toNat)
      case atStart => exact ⟨0, Nat.zero_le _, rfl, own_nil _ _ _ _, hbB, hBw⟩
      case round =>
        clear hbB hBw
        obtain ⟨i, hi, rfl, hown2, hb2, hBs⟩ := hrel
        by_cases hlt2 : i < n
        · obtain ⟨ad, u, rfl, had, hu, hc⟩ := (hr.below (HBT.out _ hb2)).at_ hlt2
          obtain ⟨z, hz, rfl⟩ := zs_at hu
          have hmem : z ∈ L := by rw [HL.out]; exact (lstD_mem l z).2 (List.mem_of_getElem? hz)
          have HPS : Hid ((plcD l).take (i + 1) = (plcD l).take i ++ [posD L z]) := Lib.hid (by rw [plcD_step hz, HL.out])
          have HCZ := Lib.hid (fun (W : World) (h : Below w.heap.size w W) => ((hr.below h).2 (by omega)))
          have hpos : posD L z < k := by
            have := posD_lt hmem
            rw [← HHL.out, htD_length]; exact this
          have HPA := Lib.hid (posD_at hmem)
          have hzc : ∀ W, Below w.heap.size w W → W.cell? (ad.add i) = some (.int .i64 z) := fun W h => by
            obtain ⟨ad', e, _, h1⟩ := (hr.below h).2 (by omega)
            injection e with e
            subst e
            exact h1 i _ (zs_get hz)
          have HZC := Lib.hid hzc
          obtain ⟨p, hp⟩ : ∃ p, p = posD L z := ⟨_, rfl⟩
          rw [← hp] at hpos HPA HPS
          clear hu hz hmem hzc hc hp had HCZ
          go_wp2_with fail
          go_loopw [6, 8] (fun s6 s8 wy => ∃ j : Nat, j ≤ k ∧ s8 = .int .i64 (j : Int) ∧ wy.ownsRow B 48 1 s6 (i + (atD p j).length) (us ((plcD l).take i ++ atD p j)) ∧ Below B _ wy ∧ B ≤ wy.heap.size) (fun _ j _ => k - (intOf j).toNat)
          case atStart => exact ⟨0, Nat.zero_le _, rfl, by simpa [atD_zero] using hown2, hb2, hBs⟩
          case round =>
            clear hown2 hb2 hBs
            obtain ⟨j, hj, rfl, hown3, hb3, hBs⟩ := hrel
            by_cases hlt3 : j < k
            · obtain ⟨ad3, u3, rfl, _, hu3, hc3⟩ := (HR1.out _ hb3).at_ hlt3
              obtain ⟨x, hx, rfl⟩ := zs_at hu3
              have hcz := HZC.out _ (HBT.out _ hb3)
              have HX := Lib.hid hx
              clear hu3 hx
              by_cases hxz : x = z
              · subst hxz
                have hpj : p = j := rise_inj HRI.out HPA.out HX.out
                subst hpj
                have h1 := (atD_hit p).1
                rw [h1, List.append_nil, List.length_nil, Nat.add_zero] at hown3
                have H2 := Lib.hid (atD_hit p).2
                have q1 : ((x : Int) == x) = true := by simp
                have hjc : IntKind.u64.wrap (p : Int) = (p : Int) := by rw [u64w]; omega
                clear h1
                go_wp2_with fail
                go_quiet (fail)
                go_wp2_with (at_builtin
                             refine wpList_append_any _ rfl (.tmp 70) (.tmp 73) _ rfl B 48 i1 _ 1 8 Try.underlying51 hi1 hy0 hy1 hy2 rfl (by omega) u6 i (us ((plcD l).take i)) rfl
                               ((own_drewN hown3 _).alloc _) (wr.heap.size + 1) (some ⟨wr.heap.size, 0, none⟩) 1 1 [.int .u64 (p : Int)] rfl (Reads.new (wr.drewN _) _ _) (one_int _ _) (by unfold maxLen; omega) (by omega) (by simp; omega) ?_
                             intro v4 w4 hown4 hg4 hat4)
                go_round
                case rel =>
                  refine ⟨p + 1, by omega, by go_num, ?_, below_app ((Drawn.one _ _).below hb3) (own_drewN hown3 _) hBs hg4, by have := hg4.size; simp at this; omega⟩
                  rw [H2.out, us_append]
                  exact hown4
                case measure => simp [intOf]; omega
              · have hpj : p ≠ j := fun e => by
                  have h1 := HPA.out
                  rw [e, HX.out] at h1
                  injection h1 with h1
                  exact hxz h1
                have H2 := Lib.hid (atD_miss hpj)
                have q1 : ((x : Int) == z) = false := by simp [hxz]
                go_wp2_with fail
                go_quiet (fail)
                go_wp2_with fail
                go_round
                case rel =>
                  refine ⟨j + 1, by omega, by go_num, ?_, (Drawn.one _ _).below hb3, hBs⟩
                  rw [H2.out]
                  exact hown3
                case measure => simp [intOf]; omega
            · obtain rfl : j = k := by omega
              rw [atD_all hpos, ← HPS.out] at hown3
              go_wp2_with fail
              go_round
              case rel => exact ⟨i + 1, by omega, by go_num, hown3, hb3, hBs⟩
              case measure => simp [intOf]; omega
        · obtain rfl : i = n := by omega
          rw [List.take_of_length_le (by rw [HPL.out]; exact Nat.le_refl _)] at hown2
          obtain ⟨P, hP⟩ : ∃ P, P = plcD l := ⟨_, rfl⟩
          obtain ⟨K, hK⟩ : ∃ K, K = wd P := ⟨_, rfl⟩
          have hKb : blen (k - 1) = K := by rw [hK, hP, wd_plcD, ← HL.out, ← HHL.out, htD_length]
          have hK16 : K ≤ 16 := by rw [hK, hP]; exact wd_plcD_le l (by rw [E1.out]; exact hn)
          have hP64 : ∀ a ∈ P, a < 18446744073709551616 := fun a ha => by
            rw [hP] at ha
            have h1 := plcD_lt l a ha
            have h2 := lstD_length l
            rw [E1.out] at h2
            omega
          have hdp := (dc_parts l (by rw [E1.out]; exact hn)).2
          have HD : Hid (dc l = hdD L ++ [K] ++ packB K P) := Lib.hid (by unfold dc; rw [hK, hP, HL.out])
          rw [← hP] at hown2 hdp
          rw [← hK] at hdp
          have HKB := Lib.hid hKb; have HK := Lib.hid hK; have H64 := Lib.hid hP64
          obtain ⟨A2, c2, rfl, _, _, r2⟩ := own_slice hown2
          have oB := HOB.out _ hb2
          have hb0 := HBT.out _ hb2
          have HLT2 := Lib.hid (fun q (hq : u4.ownBlock = some q) => Nat.lt_of_lt_of_le (HLT.out q hq).2 hBs)
          clear hKb hK hP64 hP hown2
          go_wp2_with fail
          refine (refWidthD_any k wr (by omega)).mono ?_
          rintro e w' ⟨rfl, rfl⟩
          rw [HKB.out]
          go_wp2_with fail
          refine (refPack_fit A2 i c2 P _ K rfl wr r2 H64.out (by omega) (by omega) (by rw [HK.out]; exact Nat.le_refl _)).mono ?_
          rintro e w4 ⟨v4, rfl, hown4, hb4⟩
          obtain ⟨A4, c4, rfl, _, _, _⟩ := own_slice hown4
          have o24 := own_below oB hb4
          have hb04 := hb0.trans (hb4.mono hb0.size)
          have t0 := hb0.size
          have t4 := hb4.size
          have hne : (Value.slice A4 (packB K P).length c4).ownBlock = none ∨ (Value.slice A4 (packB K P).length c4).ownBlock ≠ u4.ownBlock := by
            cases hv : (Value.slice A4 (packB K P).length c4).ownBlock with
            | none => exact .inl rfl
            | some q =>
              refine .inr fun e => ?_
              have h1 := (hown4.lt q hv).1
              have h2 := HLT2.out q e.symm
              omega
          have hw1 : w.heap.size ≤ w1.heap.size := HW1.out
          have hb05 := fun (o : Obj) (w5 : World) (hg : (w4.alloc o).grownBy w5 u4.ownBlock) => below_app hb04 (own_base o24 hw1) hb04.size hg
          clear oB r2
          go_wp2_with (first
            | (at_builtin
               refine wpList_append_any _ rfl (.tmp 84) (.tmp 87) _ rfl w1.heap.size 5 i0 _ 1 1 Try.underlying24 hi0 hz0 hz1 hz2 rfl (by omega) u4 (hdD L).length (bs (hdD L)) rfl
                 (o24.alloc _) (w4.heap.size + 1) (some ⟨w4.heap.size, 0, none⟩) 1 1 [.int .u8 (K : Int)] rfl (Reads.new w4 _ _) (one_int _ _) (by unfold maxLen; omega) (by omega) (by simp; omega) ?_
               intro v5 w5 hown5 hg5 hat5
               have o45 := (hown4.alloc (.cells #[.int .u8 (K : Int)] 5)).kept hg5 hne
               have hb5 := hb05 _ _ hg5
               have r4 := Reads.of_own o45)
            | (at_builtin
               refine wpList_append_any _ rfl (.tmp 88) (.tmp 89) _ rfl w1.heap.size 5 i0 _ 1 1 Try.underlying24 hi0 hz0 hz1 hz2 rfl (by omega) v5 ((hdD L).length + 1) (bs (hdD L) ++ [.int .u8 (K : Int)]) rfl
                 hown5 w5.heap.size A4 (packB K P).length c4 (bs (packB K P)) rfl r4 (bs_one _) (by unfold maxLen; omega) (by omega) (by have := hg5.size; simp at this; omega) ?_
               intro v6 w6 hown6 hg6 hat6))
          go_ret
          have hb6 := hb5.grown hg6 hb5.size (fun q hq => by have := (hown5.lt q hq).1; omega)
          have hd : bs (hdD L) ++ [.int .u8 (K : Int)] ++ bs (packB K P) = bs (dc l) := by
            rw [HD.out, bs_append, bs_append]; rfl
          have hdl2 : (hdD L).length + 1 + (packB K P).length = (dc l).length := by
            rw [HD.out, List.length_append, List.length_append]; rfl
          rw [hd, hdl2] at hown6
          exact ⟨v6, rfl, own_base hown6 hw1, hb6⟩
end Go.Proofs.Ytppeagjklndidaa
