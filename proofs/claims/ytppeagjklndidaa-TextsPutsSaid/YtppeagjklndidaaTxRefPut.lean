/- The document's form of texts. -/
import Derived.Test.YtppeagjklndidaaTxRefList
import Derived.Test.YtppeagjklndidaaJ16
import Derived.Test.YtppeagjklndidaaDcRefList
import Derived.Test.YtppeagjklndidaaJ40
import Derived.Test.YtppeagjklndidaaRefPackF
import Derived.Test.YtppeagjklndidaaMem64
import Derived.Test.YtppeagjklndidaaJ14
import Derived.Test.YtppeagjklndidaaTxPutL
namespace Go.Proofs.Ytppeagjklndidaa
open Go.RowKit
set_option linter.unusedVariables false
set_option linter.unusedSimpArgs false
set_option maxRecDepth 100000

theorem refBlob_any (A : Option Addr) (n c : Nat) (p : List Nat) (w : World) (hr : Reads w w.heap.size 1 A n (bs p)) (hn : n ≤ 140737488355300) :
    Calls Try.prog 37 #[.slice A n c] w (New w (bs (blob p)) (blob p).length) := by
  obtain ⟨i0, hi0, hz0, hz1, hz2⟩ := info_parts info_u8
  have e1 : p.length = n := by have := hr.1; rw [bs_length] at this; omega
  have HB : Hid (vb n ++ p = blob p) := Lib.hid (by unfold blob; rw [e1])
  have HL : Hid ((vb n).length + n = (blob p).length) := Lib.hid (by rw [blob_length, e1])
  have hv := (vb_length n).2
  have hnw : IntKind.u64.wrap (n : Int) = (n : Int) := IntWalk.u64_in _ (by omega)
  clear e1
  go_enter Try.func37, Try.ntmps37
  go_wp2_with fail
  refine (refVar_any n w (by omega)).mono ?_
  rintro e w1 ⟨v1, rfl, hown1, hb1⟩
  have r1 := hr.next hb1
  go_wp2_with (at_builtin
               refine wpList_append_any _ rfl (.tmp 6) (.tmp 7) _ rfl w.heap.size 5 i0 _ 1 1 Try.underlying24 hi0 hz0 hz1 hz2 rfl (by omega) v1 (vb n).length (bs (vb n)) rfl
                 hown1 w1.heap.size A n c (bs p) rfl r1 (bs_one _) (by unfold maxLen; omega) (by omega) hb1.size ?_
               intro v3 w3 hown3 hg3 hat3)
  go_ret
  rw [← bs_append, HB.out, HL.out] at hown3
  exact ⟨v3, rfl, hown3, hb1.grown hg3 hb1.size (fun k hk => (hown1.lt k hk).1)⟩
theorem plcT_step {l : List Tx} {k : Nat} {z : Tx} (h : l[k]? = some z) : (plcT l).take (k + 1) = (plcT l).take k ++ [whT (lstT l) z] := take_snoc (by unfold plcT; rw [List.getElem?_map, h]; rfl)
set_option maxHeartbeats 2000000 in
theorem refTx_any (A : Option Addr) (n c : Nat) (l : List Tx) (w : World) (hr : Reads w w.heap.size 1 A n (ts l)) (hn : n ≤ 65536) (hq : ∀ s ∈ l, s.length ≤ 65536) :
    Calls Try.prog 18 #[.slice A n c] w (New w (bs (txf l)) (txf l).length) := by
  obtain ⟨i0, hi0, hz0, hz1, hz2⟩ := info_parts info_u8
  obtain ⟨i1, hi1, hy0, hy1, hy2⟩ := info_parts info_u64
  have e1 : l.length = n := by have := hr.1; rw [ts_length] at this; omega
  have E1 := Lib.hid e1
  have hLl := lstT_length l
  rw [e1] at hLl
  have hcl := refListT_any A n c l w hr hn
  have HRI : Hid (RiseT (lstT l)) := Lib.hid (lstT_rise l)
  have HMM : Hid (∀ z ∈ l, z ∈ lstT l) := Lib.hid fun z hz => (lstT_mem l z).2 hz
  have hqL := lstT_long hq
  obtain ⟨L, hL⟩ : ∃ L, L = lstT l := ⟨_, rfl⟩
  obtain ⟨N, hN⟩ : ∃ N, N = L.length := ⟨_, rfl⟩
  rw [← hL] at hcl hLl HRI HMM hqL
  unfold NewT at hcl
  rw [← hN] at hcl hLl
  have HHD : Hid (hdT L = vb N ++ blbs L) := Lib.hid (by unfold hdT; rw [hN])
  have HN := Lib.hid hN
  have HL := Lib.hid hL
  have HQ := Lib.hid hqL
  have HQL := Lib.hid hq
  have HFL := Lib.hid (fun k (hk : k ≤ N) => front_le L N k hk (by omega) hqL)
  have HC := Lib.hid hcl
  clear hcl e1 hL hN hq hqL
  go_enter Try.func18, Try.ntmps18
  go_wp2_with fail
  refine HC.out.mono ?_
  rintro e w1 ⟨v1, rfl, hown1, hb1⟩
  obtain ⟨A1, c1, rfl, hc1, _, r1⟩ := own_slice hown1
  clear hown1
  have hNc : IntKind.u64.wrap (N : Int) = (N : Int) := by rw [u64w]; omega
  go_wp2_with fail
  refine (refVar_any N w1 (by omega)).mono ?_
  rintro e w2 ⟨v2, rfl, hown2, hb2⟩
  go_wp2_with fail
  go_loopw [4, 5] (fun s4 s5 wr => ∃ k : Nat, k ≤ N ∧ s5 = .int .i64 (k : Int) ∧ wr.ownsRow w1.heap.size 5 1 s4 (vb N ++ blbs (L.take k)).length (bs (vb N ++ blbs (L.take k))) ∧ Below w1.heap.size w1 wr) (fun _ i _ => N - (intOf i).toNat)
  case atStart => exact ⟨0, Nat.zero_le _, rfl, by simpa [blbs] using hown2, hb2⟩
  case round =>
    clear hown2 hb2
    obtain ⟨k, hk, rfl, hown, hb⟩ := hrel
    have hsz := hb.size
    have hwl := HFL.out k hk
    by_cases hlt : k < N
    · obtain ⟨ad, u, rfl, _, hu, hc⟩ := (r1.below hb).at_ hlt
      obtain ⟨z, hz, rfl⟩ := ts_at hu
      have hzl := HQ.out z (List.mem_of_getElem? hz)
      have HST := Lib.hid (blbs_step hz)
      have HBZ := Lib.hid (blobT_is z)
      have hbl : (blbT z).length ≤ 65546 := by have := blbT_length (s := z); omega
      have hcv := conv_is z
      have hbc := conv_below wr z
      have hrc := conv_reads wr z
      clear hu hz
      go_wp2_with fail
      refine (refBlob_any _ z.length _ (nb z) _ hrc (by omega)).mono ?_
      intro e2 w2' hN2
      obtain ⟨A2, c2, rfl, _, hr2, hb2⟩ := hN2.opened
      rw [HBZ.out] at hr2
      rw [HBZ.out]
      have hbw2 : Below wr.heap.size wr w2' := hbc.trans (hb2.mono hbc.size)
      have hown2 := own_below hown hbw2
      have hb02 := hb.trans (hbw2.mono hb.size)
      clear hcv hbc hrc hb2 hN2
      go_wp2_with (at_builtin
                   refine wpList_append_any _ rfl (.tmp 25) (.tmp 31) _ rfl w1.heap.size 5 i0 _ 1 1 Try.underlying24 hi0 hz0 hz1 hz2 rfl (by omega) u4 (vb N ++ blbs (L.take k)).length (bs (vb N ++ blbs (L.take k))) rfl
                     hown2 w2'.heap.size A2 (blbT z).length c2 (bs (blbT z)) rfl hr2 (bs_one _) (by unfold maxLen; omega) (by omega) hb02.size ?_
                   intro v3 w3 hown3 hg3 hat3)
      go_round
      case rel =>
        refine ⟨k + 1, by omega, by go_num, ?_, hb02.grown hg3 hb02.size (fun j hj => (hown2.lt j hj).1)⟩
        rw [HST.out, ← List.append_assoc, List.length_append, bs_append]
        exact hown3
      case measure => simp [intOf]; omega
    · obtain rfl : k = N := by omega
      rw [List.take_of_length_le (by rw [HN.out]; exact Nat.le_refl _), ← HHD.out] at hown hwl
      obtain ⟨B, hB⟩ : ∃ B, B = wr.heap.size := ⟨_, rfl⟩
      have hb0r := hb1.trans (hb.mono hb1.size)
      have hwB : w.heap.size ≤ B := by rw [hB]; exact hb0r.size
      have h1B : w1.heap.size ≤ B := by rw [hB]; exact hsz
      have HR1 := Lib.hid (fun (W : World) (h : Below B wr W) => (show Reads W W.heap.size 1 A1 k (ts L) from ((r1.below hb).more h1B |>.below h).more (by have := h.size; rw [hB]; omega)))
      have HBT := Lib.hid (fun (W : World) (h : Below B wr W) => (show Below w.heap.size w W from hb0r.trans (h.mono hwB)))
      have HW1 := Lib.hid hb1.size
      have HOB := Lib.hid (fun (W : World) (h : Below B wr W) => own_below hown (by rw [← hB]; exact h))
      have hlts := hown.lt
      rw [← hB] at hlts
      have HLT := Lib.hid hlts
      have hbB : Below B wr wr := Below.refl _ _
      have hBw : B ≤ wr.heap.size := by rw [hB]; exact Nat.le_refl _
      have HPL : Hid ((plcT l).length = n) := Lib.hid (by rw [plcT_length, E1.out])
      clear hB hb0r r1 hown hb hb1 hlts
      go_wp2_with fail
      go_loopw [6, 7] (fun s6 s7 wx => ∃ i : Nat, i ≤ n ∧ s7 = .int .i64 (i : Int) ∧ wx.ownsRow B 48 1 s6 i (us ((plcT l).take i)) ∧ Below B wr wx ∧ B ≤ wx.heap.size) (fun _ i _ => n - (intOf i).toNat)
      case atStart => exact ⟨0, Nat.zero_le _, rfl, own_nil _ _ _ _, hbB, hBw⟩
      case round =>
        clear hbB hBw
        obtain ⟨i, hi, rfl, hown2, hb2, hBs⟩ := hrel
        by_cases hlt2 : i < n
        · obtain ⟨ad, u, rfl, had, hu, hc⟩ := (hr.below (HBT.out _ hb2)).at_ hlt2
          obtain ⟨z, hz, rfl⟩ := ts_at hu
          have hpz := whT_le L z
          rw [← HN.out] at hpz
          have HPS : Hid ((plcT l).take (i + 1) = (plcT l).take i ++ [whT L z]) := Lib.hid (by rw [plcT_step hz, HL.out])
          have HPC := Lib.hid (refPlace_any A1 k c1 L z _ (HR1.out _ hb2) (by omega))
          obtain ⟨p, hp⟩ : ∃ p, p = whT L z := ⟨_, rfl⟩
          rw [← hp] at hpz HPS HPC
          have hpc : IntKind.u64.wrap (p : Int) = (p : Int) := by rw [u64w]; omega
          clear hu hz hp had
          go_wp2_with fail
          refine HPC.out.mono ?_
          rintro e w3 ⟨rfl, hd3⟩
          have hb3 := hd3.below hb2
          have hown3 : w3.ownsRow B 48 1 u6 i (us ((plcT l).take i)) := by obtain ⟨q, rfl⟩ := hd3; exact hown2
          have hBs3 : B ≤ w3.heap.size := by obtain ⟨q, rfl⟩ := hd3; exact hBs
          clear hd3 hb2 hown2 hBs hc
          go_wp2_with (at_builtin
                       refine wpList_append_any _ rfl (.tmp 48) (.tmp 51) _ rfl B 48 i1 _ 1 8 Try.underlying51 hi1 hy0 hy1 hy2 rfl (by omega) u6 i (us ((plcT l).take i)) rfl
                         (hown3.alloc _) (w3.heap.size + 1) (some ⟨w3.heap.size, 0, none⟩) 1 1 [.int .u64 (p : Int)] rfl (Reads.new w3 _ _) (one_int _ _) (by unfold maxLen; omega) (by omega) (by simp; omega) ?_
                       intro v4 w4 hown4 hg4 hat4)
          go_round
          case rel =>
            refine ⟨i + 1, by omega, by go_num, ?_, below_app hb3 hown3 hBs3 hg4, by have := hg4.size; simp at this; omega⟩
            rw [HPS.out, us_append]
            exact hown4
          case measure => simp [intOf]; omega
        · obtain rfl : i = n := by omega
          rw [List.take_of_length_le (by rw [HPL.out]; exact Nat.le_refl _)] at hown2
          obtain ⟨P, hP⟩ : ∃ P, P = plcT l := ⟨_, rfl⟩
          obtain ⟨K, hK⟩ : ∃ K, K = wd P := ⟨_, rfl⟩
          have hKb : blen (k - 1) = K := by rw [hK, hP, wd_plcT, ← HL.out, ← HN.out]
          have hK16 : K ≤ 16 := by rw [hK, hP]; exact wd_plcT_le l (by rw [E1.out]; exact hn)
          have hP64 : ∀ a ∈ P, a < 18446744073709551616 := fun a ha => by
            rw [hP] at ha
            have h1 := plcT_lt l a ha
            have h2 := lstT_length l
            rw [E1.out] at h2
            omega
          have hdp := (txf_parts l (by rw [E1.out]; exact hn) HQL.out).2
          have HD : Hid (txf l = hdT L ++ [K] ++ packB K P) := Lib.hid (by unfold txf; rw [hK, hP, HL.out])
          rw [← hP] at hown2 hdp
          rw [← hK] at hdp
          have HKB := Lib.hid hKb; have HK := Lib.hid hK; have H64 := Lib.hid hP64
          obtain ⟨A2, c2, rfl, _, _, r2⟩ := own_slice hown2
          have oB := HOB.out _ hb2
          have hb0 := HBT.out _ hb2
          have HLT2 := Lib.hid (fun q (hq : u4.ownBlock = some q) => Nat.lt_of_lt_of_le (HLT.out q hq).2 hBs)
          clear hKb hK hP64 hP hown2
          go_wp2_with fail
          refine (refWidthD_any k wr (by omega)).mono ?_
          rintro e w' ⟨rfl, rfl⟩
          rw [HKB.out]
          go_wp2_with fail
          refine (refPack_fit A2 i c2 P _ K rfl wr r2 H64.out (by omega) (by omega) (by rw [HK.out]; exact Nat.le_refl _)).mono ?_
          rintro e w4 ⟨v4, rfl, hown4, hb4⟩
          obtain ⟨A4, c4, rfl, _, _, _⟩ := own_slice hown4
          have o24 := own_below oB hb4
          have hb04 := hb0.trans (hb4.mono hb0.size)
          have t0 := hb0.size
          have t4 := hb4.size
          have hne : (Value.slice A4 (packB K P).length c4).ownBlock = none ∨ (Value.slice A4 (packB K P).length c4).ownBlock ≠ u4.ownBlock := by
            cases hv : (Value.slice A4 (packB K P).length c4).ownBlock with
            | none => exact .inl rfl
            | some q =>
              refine .inr fun e => ?_
              have h1 := (hown4.lt q hv).1
              have h2 := HLT2.out q e.symm
              omega
          have hw1 : w.heap.size ≤ w1.heap.size := HW1.out
          have hb05 := fun (o : Obj) (w5 : World) (hg : (w4.alloc o).grownBy w5 u4.ownBlock) => below_app hb04 (own_base o24 hw1) hb04.size hg
          clear oB r2
          go_wp2_with (first
            | (at_builtin
               refine wpList_append_any _ rfl (.tmp 62) (.tmp 65) _ rfl w1.heap.size 5 i0 _ 1 1 Try.underlying24 hi0 hz0 hz1 hz2 rfl (by omega) u4 (hdT L).length (bs (hdT L)) rfl
                 (o24.alloc _) (w4.heap.size + 1) (some ⟨w4.heap.size, 0, none⟩) 1 1 [.int .u8 (K : Int)] rfl (Reads.new w4 _ _) (one_int _ _) (by unfold maxLen; omega) (by omega) (by simp; omega) ?_
               intro v5 w5 hown5 hg5 hat5
               have o45 := (hown4.alloc (.cells #[.int .u8 (K : Int)] 5)).kept hg5 hne
               have hb5 := hb05 _ _ hg5
               have r4 := Reads.of_own o45)
            | (at_builtin
               refine wpList_append_any _ rfl (.tmp 66) (.tmp 67) _ rfl w1.heap.size 5 i0 _ 1 1 Try.underlying24 hi0 hz0 hz1 hz2 rfl (by omega) v5 ((hdT L).length + 1) (bs (hdT L) ++ [.int .u8 (K : Int)]) rfl
                 hown5 w5.heap.size A4 (packB K P).length c4 (bs (packB K P)) rfl r4 (bs_one _) (by unfold maxLen; omega) (by omega) (by have := hg5.size; simp at this; omega) ?_
               intro v6 w6 hown6 hg6 hat6))
          go_ret
          have hb6 := hb5.grown hg6 hb5.size (fun q hq => by have := (hown5.lt q hq).1; omega)
          have hd : bs (hdT L) ++ [.int .u8 (K : Int)] ++ bs (packB K P) = bs (txf l) := by
            rw [HD.out, bs_append, bs_append]; rfl
          have hdl2 : (hdT L).length + 1 + (packB K P).length = (txf l).length := by
            rw [HD.out, List.length_append, List.length_append]; rfl
          rw [hd, hdl2] at hown6
          exact ⟨v6, rfl, own_base hown6 hw1, hb6⟩
end Go.Proofs.Ytppeagjklndidaa
