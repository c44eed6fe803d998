import Derived.Test.YtpgdlmnhomnblaaGreatDoorJ7
import Derived.Test.YtpgdlmnhomnblaaGreatDoorJ38
import Derived.Test.YtpgdlmnhomnblaaGreatDoorJ6
import Derived.Test.YtpgdlmnhomnblaaGreatDoorJ11
import Derived.Test.YtpgdlmnhomnblaaGreatDoorJ17
import Derived.Test.YtpgdlmnhomnblaaGreatDoorDcRefList
import Derived.Test.YtpgdlmnhomnblaaGreatDoorJ34
import Derived.Test.YtpgdlmnhomnblaaGreatDoorJ36
import Derived.Test.YtpgdlmnhomnblaaGreatDoorJ12
namespace Go.Proofs.YtpgdlmnhomnblaaGreatDoor
open Go.RowKit
set_option linter.unusedVariables false
set_option linter.unusedSimpArgs false
set_option maxRecDepth 100000
theorem add_zero_ (a : Addr) : a.add 0 = a := by unfold Addr.add; simp
theorem map_add_zero (A : Option Addr) : A.map (·.add 0) = A := by cases A <;> simp [add_zero_]
theorem elem_str : Tryz.prog.elem 175 = 9 := by kernel_rfl
theorem sizeOf_str (W : World) : (sizeOf 9).run Tryz.prog W = .ok 1 W := by
  obtain ⟨i0, hi0, hz0, hz1, hz2⟩ := info_parts info_str
  simp [sizeOf, typeInfo, hi0, hz1]
theorem slice_front (A : Option Addr) (n c p : Nat) (hp : p ≤ c) (W : World) : (Instr.sliceAt 175 (.slice A n c) none (some (.int .i64 (p : Int))) none).run Tryz.prog W = .ok (.slice A p c) W := by
  rw [run_sliceAt_slice W 175 _ _ _ _ (by rw [elem_str]; exact Tryz.underlying175), run_slice_h W 175 A n c (by rw [elem_str]; exact Tryz.underlying175) .i64 (p : Int) (by omega) (by omega), elem_str, sizeOf_str]
  have h : (if c = 0 then A else A.map (·.add 0)) = A := by rw [map_add_zero]; simp
  simp [Result.andThen, sliced, map_add_zero]
theorem slice_rest (A : Option Addr) (n c p : Nat) (hp : p ≤ n) (W : World) : (Instr.sliceAt 175 (.slice A n c) (some (.int .i64 (p : Int))) none none).run Tryz.prog W = .ok (.slice (if c = p then A else A.map (·.add p)) (n - p) (c - p)) W := by
  rw [run_sliceAt_slice W 175 _ _ _ _ (by rw [elem_str]; exact Tryz.underlying175), run_slice_l W 175 A n c (by rw [elem_str]; exact Tryz.underlying175) .i64 (p : Int) (by omega) (by omega), elem_str, sizeOf_str]
  simp [Result.andThen, sliced]
end Go.Proofs.YtpgdlmnhomnblaaGreatDoor
namespace Go.Proofs.YtpgdlmnhomnblaaGreatDoor
open Go.RowKit
set_option linter.unusedVariables false
set_option linter.unusedSimpArgs false
set_option maxRecDepth 100000
set_option maxHeartbeats 2000000 in
theorem refListT_any (A : Option Addr) (n c : Nat) (l : List Tx) (w : World) (hr : Reads w w.heap.size 1 A n (ts l)) (hn : n ≤ 65536) :
    Calls Tryz.prog 198 #[.slice A n c] w (NewT w (lstT l)) := by
  obtain ⟨i1, hi1, hy0, hy1, hy2⟩ := info_parts info_str
  have e1 : l.length = n := by have := hr.1; rw [ts_length] at this; omega
  have E1 := Lib.hid e1
  clear e1
  go_enter Tryz.func198, Tryz.ntmps198
  go_wp2_with fail
  go_loopw [3, 4] (fun s3 s4 wr => ∃ k : Nat, k ≤ n ∧ s4 = .int .i64 (k : Int) ∧ wr.ownsRow w.heap.size 9 1 s3 (lstT (l.take k)).length (ts (lstT (l.take k))) ∧ Below w.heap.size w wr) (fun _ i _ => n - (intOf i).toNat)
  case atStart => exact ⟨0, Nat.zero_le _, rfl, own_nil _ _ _ _, Below.refl _ _⟩
  case round =>
    obtain ⟨k, hk, rfl, hown, hb⟩ := hrel
    by_cases hlt : k < n
    · obtain ⟨ad, u, rfl, hadb, hu, hc⟩ := (hr.below hb).at_ hlt
      obtain ⟨z, hz, rfl⟩ := ts_at hu
      have hzc : ∀ W : World, Below w.heap.size w W → W.cell? (ad.add k) = some (.string ⟨z.toArray⟩) := fun W h => by
        obtain ⟨ad', u', e, _, h1, h2⟩ := (hr.below h).at_ hlt
        injection e with e
        subst e
        rw [ts_get hz] at h1
        injection h1 with h1
        subst h1
        exact h2
      have HZC := Lib.hid hzc
      have hol := lstT_length (l.take k)
      have htk : (l.take k).length ≤ k := List.length_take_le _ _
      have HS : Hid (lstT (l.take (k + 1)) = insT z (lstT (l.take k))) := Lib.hid (by rw [take_snoc hz, lstT_snoc])
      obtain ⟨o, ho⟩ : ∃ o, o = lstT (l.take k) := ⟨_, rfl⟩
      obtain ⟨N, hN⟩ : ∃ N, N = o.length := ⟨_, rfl⟩
      rw [← ho] at hown hol HS
      rw [← hN] at hown hol
      have HN := Lib.hid hN
      obtain ⟨A3, c3, rfl, hc3, _, r3⟩ := own_slice hown
      have hp := whT_le o z
      rw [← hN] at hp
      have HPL := Lib.hid (refPlace_any A3 N c3 o z wr r3 (by omega))
      obtain ⟨p, hp0⟩ : ∃ p, p = whT o z := ⟨_, rfl⟩
      have hNk : N ≤ k := by omega
      rw [← hp0] at hp HPL
      cases hI : isT o z with
      | true =>
        have HE : Hid (insT z o = o) := Lib.hid (insT_old (by unfold isT at hI; simpa using hI))
        rw [hI] at HPL
        clear hu hz ho hzc hadb hI hN hp0
        go_wp2_with fail
        refine HPL.out.mono ?_
        rintro e w1 ⟨rfl, hd⟩
        have hown1 : w1.ownsRow w.heap.size 9 1 (.slice A3 N c3) N (ts o) := by
          obtain ⟨q, rfl⟩ := hd
          exact hown
        go_wp2_with fail
        go_round
        case rel =>
          refine ⟨k + 1, by omega, by go_num, ?_, hd.below hb⟩
          rw [HS.out, HE.out, ← HN.out]
          exact hown1
        case measure => simp [intOf]; omega
      | false =>
        have HE : Hid (insT z o = o.take p ++ z :: o.drop p) := Lib.hid (by rw [hp0]; exact insT_new (by unfold isT at hI; simpa using hI))
        rw [hI] at HPL
        clear hu hz ho hzc hadb hI hp0 hN
        go_wp2_with fail
        refine HPL.out.mono ?_
        rintro e w1 ⟨rfl, hd⟩
        have hb1 := hd.below hb
        have r31 := r3.next (hd.below (Below.refl _ _))
        have hF := r31.fore (k := p) hp
        simp only [Nat.mul_one] at hF
        rw [ts_take] at hF
        have hcap : N ≤ c3 := hc3
        have hD := r31.cut (k := p) (cap := c3) hp hc3
        simp only [Nat.mul_one] at hD
        rw [ts_drop] at hD
        have hzw := HZC.out _ hb1
        have hN3 : (o.take p).length = p := by rw [List.length_take]; have := HN.out; omega
        have HN3 := Lib.hid hN3
        clear r3 hc hb hown hN3 hd
        have hs1 := slice_front A3 N c3 p (by omega)
        have hs2 := slice_rest A3 N c3 p hp
        obtain ⟨A4, hA4⟩ : ∃ A4, (if c3 = p then A3 else A3.map (·.add p)) = A4 := ⟨_, rfl⟩
        rw [hA4] at hs2 hD
        have HS2 := Lib.hid hs2
        clear hA4 r31 hs2
        have HL : Hid (ts (o.take p) ++ [Value.string ⟨z.toArray⟩] ++ ts (o.drop p) = ts (insT z o) ∧ p + 1 + (N - p) = (insT z o).length) := Lib.hid (by
          rw [HE.out]
          refine ⟨by simp [ts], ?_⟩
          rw [List.length_append, List.length_cons, HN3.out, List.length_drop]
          have := HN.out
          omega)
        go_wp2_with (first
          | (at_builtin
             refine wpList_append_any _ rfl (.tmp 25) (.tmp 28) _ rfl w1.heap.size 9 i1 _ 1 16 Tryz.underlying175 hi1 hy0 hy1 hy2 rfl (by omega) (.slice (some ⟨w1.heap.size, 0, none⟩) 0 0) 0 [] rfl
               (World.ownsRow_made w1 #[] 0 (Nat.le_refl _) (Nat.zero_le _) rfl) w1.heap.size A3 p c3 (ts (o.take p)) rfl (hF.alloc (Nat.le_refl _) _) (ts_one _) (by unfold maxLen; omega) (by omega) (by simp) ?_
             intro v5 w5 hown5 hg5 hat5
             rw [Nat.zero_add, List.nil_append] at hown5
             simp only [Nat.zero_add]
             have hb5 : Below w1.heap.size w1 w5 := ((Below.refl _ w1).alloc (Nat.le_refl _) _).grown hg5 (by simp) (by intro k hk; simp [Value.ownBlock] at hk; omega)
             have hz5 := HZC.out _ (hb1.trans (hb5.mono hb1.size))
             have h15 := hb5.size
             clear hs1 hF hg5 hat5
             have hs2 := HS2.out)
          | (at_builtin
             refine wpList_append_any _ rfl (.tmp 30) (.tmp 35) _ rfl w1.heap.size 9 i1 _ 1 16 Tryz.underlying175 hi1 hy0 hy1 hy2 rfl (by omega) v5 p (ts (o.take p)) rfl
               (hown5.alloc _) (w5.heap.size + 1) (some ⟨w5.heap.size, 0, none⟩) 1 1 [.string ⟨z.toArray⟩] rfl (Reads.new w5 _ _) (ts_one [z]) (by unfold maxLen; omega) (by omega) (by simp; omega) ?_
             intro v6 w6 hown6 hg6 hat6
             have hb6 := below_app hb5 hown5 h15 hg6
             have hD6 := hD.next hb6
             have h16 := hb6.size
             clear hg6 hat6 hown5)
          | (at_builtin
             refine wpList_append_any _ rfl (.tmp 37) (.tmp 40) _ rfl w1.heap.size 9 i1 _ 1 16 Tryz.underlying175 hi1 hy0 hy1 hy2 rfl (by omega) v6 (p + 1) (ts (o.take p) ++ [.string ⟨z.toArray⟩]) rfl
               hown6 w6.heap.size A4 (N - p) (c3 - p) (ts (o.drop p)) rfl hD6 (ts_one _) (by unfold maxLen; omega) (by omega) h16 ?_
             intro v7 w7 hown7 hg7 hat7))
        go_round
        case rel =>
          refine ⟨k + 1, by omega, by go_num, ?_, (hb1.trans (hb6.mono hb1.size)).grown hg7 (hb1.trans (hb6.mono hb1.size)).size (fun j hj => by have := (hown6.lt j hj).1; have := hb1.size; omega)⟩
          rw [HS.out, ← HL.out.1, ← HL.out.2]
          exact own_base hown7 hb1.size
        case measure => simp [intOf]; omega
    · obtain rfl : k = n := by omega
      rw [List.take_of_length_le (by rw [E1.out]; exact Nat.le_refl _)] at hown
      go_wp2_with fail
      go_ret
      exact ⟨_, rfl, hown, hb⟩
end Go.Proofs.YtpgdlmnhomnblaaGreatDoor
namespace Go.Proofs.YtpgdlmnhomnblaaGreatDoor
open Go.RowKit
set_option linter.unusedVariables false
set_option linter.unusedSimpArgs false
set_option maxRecDepth 100000
theorem refBlob_any (A : Option Addr) (n c : Nat) (p : List Nat) (w : World) (hr : Reads w w.heap.size 1 A n (bs p)) (hn : n ≤ 140737488355300) :
    Calls Tryz.prog 199 #[.slice A n c] w (New w (bs (blob p)) (blob p).length) := by
  obtain ⟨i0, hi0, hz0, hz1, hz2⟩ := info_parts info_u8
  have e1 : p.length = n := by have := hr.1; rw [bs_length] at this; omega
  have HB : Hid (vb n ++ p = blob p) := Lib.hid (by unfold blob; rw [e1])
  have HL : Hid ((vb n).length + n = (blob p).length) := Lib.hid (by rw [blob_length, e1])
  have hv := (vb_length n).2
  have hnw : IntKind.u64.wrap (n : Int) = (n : Int) := IntWalk.u64_in _ (by omega)
  clear e1
  go_enter Tryz.func199, Tryz.ntmps199
  go_wp2_with fail
  refine (refVar_any n w (by omega)).mono ?_
  rintro e w1 ⟨v1, rfl, hown1, hb1⟩
  have r1 := hr.next hb1
  go_wp2_with (at_builtin
               refine wpList_append_any _ rfl (.tmp 6) (.tmp 7) _ rfl w.heap.size 5 i0 _ 1 1 Tryz.underlying66 hi0 hz0 hz1 hz2 rfl (by omega) v1 (vb n).length (bs (vb n)) rfl
                 hown1 w1.heap.size A n c (bs p) rfl r1 (bs_one _) (by unfold maxLen; omega) (by omega) hb1.size ?_
               intro v3 w3 hown3 hg3 hat3)
  go_ret
  rw [← bs_append, HB.out, HL.out] at hown3
  exact ⟨v3, rfl, hown3, hb1.grown hg3 hb1.size (fun k hk => (hown1.lt k hk).1)⟩
theorem plcT_step {l : List Tx} {k : Nat} {z : Tx} (h : l[k]? = some z) : (plcT l).take (k + 1) = (plcT l).take k ++ [whT (lstT l) z] := take_snoc (by unfold plcT; rw [List.getElem?_map, h]; rfl)
set_option maxHeartbeats 2000000 in
theorem refTx_any (A : Option Addr) (n c : Nat) (l : List Tx) (w : World) (hr : Reads w w.heap.size 1 A n (ts l)) (hn : n ≤ 65536) (hq : ∀ s ∈ l, s.length ≤ 65536) :
    Calls Tryz.prog 159 #[.slice A n c] w (New w (bs (txf l)) (txf l).length) := by
  obtain ⟨i0, hi0, hz0, hz1, hz2⟩ := info_parts info_u8
  obtain ⟨i1, hi1, hy0, hy1, hy2⟩ := info_parts info_u64
  have e1 : l.length = n := by have := hr.1; rw [ts_length] at this; omega
  have E1 := Lib.hid e1
  have hLl := lstT_length l
  rw [e1] at hLl
  have hcl := refListT_any A n c l w hr hn
  have HRI : Hid (RiseT (lstT l)) := Lib.hid (lstT_rise l)
  have HMM : Hid (∀ z ∈ l, z ∈ lstT l) := Lib.hid fun z hz => (lstT_mem l z).2 hz
  have hqL := lstT_long hq
  obtain ⟨L, hL⟩ : ∃ L, L = lstT l := ⟨_, rfl⟩
  obtain ⟨N, hN⟩ : ∃ N, N = L.length := ⟨_, rfl⟩
  rw [← hL] at hcl hLl HRI HMM hqL
  unfold NewT at hcl
  rw [← hN] at hcl hLl
  have HHD : Hid (hdT L = vb N ++ blbs L) := Lib.hid (by unfold hdT; rw [hN])
  have HN := Lib.hid hN
  have HL := Lib.hid hL
  have HQ := Lib.hid hqL
  have HQL := Lib.hid hq
  have HFL := Lib.hid (fun k (hk : k ≤ N) => front_le L N k hk (by omega) hqL)
  have HC := Lib.hid hcl
  clear hcl e1 hL hN hq hqL
  go_enter Tryz.func159, Tryz.ntmps159
  go_wp2_with fail
  refine HC.out.mono ?_
  rintro e w1 ⟨v1, rfl, hown1, hb1⟩
  obtain ⟨A1, c1, rfl, hc1, _, r1⟩ := own_slice hown1
  clear hown1
  have hNc : IntKind.u64.wrap (N : Int) = (N : Int) := by rw [u64w]; omega
  go_wp2_with fail
  refine (refVar_any N w1 (by omega)).mono ?_
  rintro e w2 ⟨v2, rfl, hown2, hb2⟩
  go_wp2_with fail
  go_loopw [4, 5] (fun s4 s5 wr => ∃ k : Nat, k ≤ N ∧ s5 = .int .i64 (k : Int) ∧ wr.ownsRow w1.heap.size 5 1 s4 (vb N ++ blbs (L.take k)).length (bs (vb N ++ blbs (L.take k))) ∧ Below w1.heap.size w1 wr) (fun _ i _ => N - (intOf i).toNat)
  case atStart => exact ⟨0, Nat.zero_le _, rfl, by simpa [blbs] using hown2, hb2⟩
  case round =>
    clear hown2 hb2
    obtain ⟨k, hk, rfl, hown, hb⟩ := hrel
    have hsz := hb.size
    have hwl := HFL.out k hk
    by_cases hlt : k < N
    · obtain ⟨ad, u, rfl, _, hu, hc⟩ := (r1.below hb).at_ hlt
      obtain ⟨z, hz, rfl⟩ := ts_at hu
      have hzl := HQ.out z (List.mem_of_getElem? hz)
      have HST := Lib.hid (blbs_step hz)
      have HBZ := Lib.hid (blobT_is z)
      have hbl : (blbT z).length ≤ 65546 := by have := blbT_length (s := z); omega
      have hcv := conv_is z
      have hbc := conv_below wr z
      have hrc := conv_reads wr z
      clear hu hz
      go_wp2_with fail
      refine (refBlob_any _ z.length _ (nb z) _ hrc (by omega)).mono ?_
      intro e2 w2' hN2
      obtain ⟨A2, c2, rfl, _, hr2, hb2⟩ := hN2.opened
      rw [HBZ.out] at hr2
      rw [HBZ.out]
      have hbw2 : Below wr.heap.size wr w2' := hbc.trans (hb2.mono hbc.size)
      have hown2 := own_below hown hbw2
      have hb02 := hb.trans (hbw2.mono hb.size)
      clear hcv hbc hrc hb2 hN2
      go_wp2_with (at_builtin
                   refine wpList_append_any _ rfl (.tmp 25) (.tmp 31) _ rfl w1.heap.size 5 i0 _ 1 1 Tryz.underlying66 hi0 hz0 hz1 hz2 rfl (by omega) u4 (vb N ++ blbs (L.take k)).length (bs (vb N ++ blbs (L.take k))) rfl
                     hown2 w2'.heap.size A2 (blbT z).length c2 (bs (blbT z)) rfl hr2 (bs_one _) (by unfold maxLen; omega) (by omega) hb02.size ?_
                   intro v3 w3 hown3 hg3 hat3)
      go_round
      case rel =>
        refine ⟨k + 1, by omega, by go_num, ?_, hb02.grown hg3 hb02.size (fun j hj => (hown2.lt j hj).1)⟩
        rw [HST.out, ← List.append_assoc, List.length_append, bs_append]
        exact hown3
      case measure => simp [intOf]; omega
    · obtain rfl : k = N := by omega
      rw [List.take_of_length_le (by rw [HN.out]; exact Nat.le_refl _), ← HHD.out] at hown hwl
      obtain ⟨B, hB⟩ : ∃ B, B = wr.heap.size := ⟨_, rfl⟩
      have hb0r := hb1.trans (hb.mono hb1.size)
      have hwB : w.heap.size ≤ B := by rw [hB]; exact hb0r.size
      have h1B : w1.heap.size ≤ B := by rw [hB]; exact hsz
      have HR1 := Lib.hid (fun (W : World) (h : Below B wr W) => (show Reads W W.heap.size 1 A1 k (ts L) from ((r1.below hb).more h1B |>.below h).more (by have := h.size; rw [hB]; omega)))
      have HBT := Lib.hid (fun (W : World) (h : Below B wr W) => (show Below w.heap.size w W from hb0r.trans (h.mono hwB)))
      have HW1 := Lib.hid hb1.size
      have HOB := Lib.hid (fun (W : World) (h : Below B wr W) => own_below hown (by rw [← hB]; exact h))
      have hlts := hown.lt
      rw [← hB] at hlts
      have HLT := Lib.hid hlts
      have hbB : Below B wr wr := Below.refl _ _
      have hBw : B ≤ wr.heap.size := by rw [hB]; exact Nat.le_refl _
      have HPL : Hid ((plcT l).length = n) := Lib.hid (by rw [plcT_length, E1.out])
      clear hB hb0r r1 hown hb hb1 hlts
      go_wp2_with fail
      go_loopw [6, 7] (fun s6 s7 wx => ∃ i : Nat, i ≤ n ∧ s7 = .int .i64 (i : Int) ∧ wx.ownsRow B 131 1 s6 i (us ((plcT l).take i)) ∧ Below B wr wx ∧ B ≤ wx.heap.size) (fun _ i _ => n - (intOf i).toNat)
      case atStart => exact ⟨0, Nat.zero_le _, rfl, own_nil _ _ _ _, hbB, hBw⟩
      case round =>
        clear hbB hBw
        obtain ⟨i, hi, rfl, hown2, hb2, hBs⟩ := hrel
        by_cases hlt2 : i < n
        · obtain ⟨ad, u, rfl, had, hu, hc⟩ := (hr.below (HBT.out _ hb2)).at_ hlt2
          obtain ⟨z, hz, rfl⟩ := ts_at hu
          have hpz := whT_le L z
          rw [← HN.out] at hpz
          have HPS : Hid ((plcT l).take (i + 1) = (plcT l).take i ++ [whT L z]) := Lib.hid (by rw [plcT_step hz, HL.out])
          have HPC := Lib.hid (refPlace_any A1 k c1 L z _ (HR1.out _ hb2) (by omega))
          obtain ⟨p, hp⟩ : ∃ p, p = whT L z := ⟨_, rfl⟩
          rw [← hp] at hpz HPS HPC
          have hpc : IntKind.u64.wrap (p : Int) = (p : Int) := by rw [u64w]; omega
          clear hu hz hp had
          go_wp2_with fail
          refine HPC.out.mono ?_
          rintro e w3 ⟨rfl, hd3⟩
          have hb3 := hd3.below hb2
          have hown3 : w3.ownsRow B 131 1 u6 i (us ((plcT l).take i)) := by obtain ⟨q, rfl⟩ := hd3; exact hown2
          have hBs3 : B ≤ w3.heap.size := by obtain ⟨q, rfl⟩ := hd3; exact hBs
          clear hd3 hb2 hown2 hBs hc
          go_wp2_with (at_builtin
                       refine wpList_append_any _ rfl (.tmp 48) (.tmp 51) _ rfl B 131 i1 _ 1 8 Tryz.underlying160 hi1 hy0 hy1 hy2 rfl (by omega) u6 i (us ((plcT l).take i)) rfl
                         (hown3.alloc _) (w3.heap.size + 1) (some ⟨w3.heap.size, 0, none⟩) 1 1 [.int .u64 (p : Int)] rfl (Reads.new w3 _ _) (one_int _ _) (by unfold maxLen; omega) (by omega) (by simp; omega) ?_
                       intro v4 w4 hown4 hg4 hat4)
          go_round
          case rel =>
            refine ⟨i + 1, by omega, by go_num, ?_, below_app hb3 hown3 hBs3 hg4, by have := hg4.size; simp at this; omega⟩
            rw [HPS.out, us_append]
            exact hown4
          case measure => simp [intOf]; omega
        · obtain rfl : i = n := by omega
          rw [List.take_of_length_le (by rw [HPL.out]; exact Nat.le_refl _)] at hown2
          obtain ⟨P, hP⟩ : ∃ P, P = plcT l := ⟨_, rfl⟩
          obtain ⟨K, hK⟩ : ∃ K, K = wd P := ⟨_, rfl⟩
          have hKb : blen (k - 1) = K := by rw [hK, hP, wd_plcT, ← HL.out, ← HN.out]
          have hK16 : K ≤ 16 := by rw [hK, hP]; exact wd_plcT_le l (by rw [E1.out]; exact hn)
          have hP64 : ∀ a ∈ P, a < 18446744073709551616 := fun a ha => by
            rw [hP] at ha
            have h1 := plcT_lt l a ha
            have h2 := lstT_length l
            rw [E1.out] at h2
            omega
          have hdp := (txf_parts l (by rw [E1.out]; exact hn) HQL.out).2
          have HD : Hid (txf l = hdT L ++ [K] ++ packB K P) := Lib.hid (by unfold txf; rw [hK, hP, HL.out])
          rw [← hP] at hown2 hdp
          rw [← hK] at hdp
          have HKB := Lib.hid hKb; have HK := Lib.hid hK; have H64 := Lib.hid hP64
          obtain ⟨A2, c2, rfl, _, _, r2⟩ := own_slice hown2
          have oB := HOB.out _ hb2
          have hb0 := HBT.out _ hb2
          have HLT2 := Lib.hid (fun q (hq : u4.ownBlock = some q) => Nat.lt_of_lt_of_le (HLT.out q hq).2 hBs)
          clear hKb hK hP64 hP hown2
          go_wp2_with fail
          refine (refWidthD_any k wr (by omega)).mono ?_
          rintro e w' ⟨rfl, rfl⟩
          rw [HKB.out]
          go_wp2_with fail
          refine (refPack_fit A2 i c2 P _ K rfl wr r2 H64.out (by omega) (by omega) (by rw [HK.out]; exact Nat.le_refl _)).mono ?_
          rintro e w4 ⟨v4, rfl, hown4, hb4⟩
          obtain ⟨A4, c4, rfl, _, _, _⟩ := own_slice hown4
          have o24 := own_below oB hb4
          have hb04 := hb0.trans (hb4.mono hb0.size)
          have t0 := hb0.size
          have t4 := hb4.size
          have hne : (Value.slice A4 (packB K P).length c4).ownBlock = none ∨ (Value.slice A4 (packB K P).length c4).ownBlock ≠ u4.ownBlock := by
            cases hv : (Value.slice A4 (packB K P).length c4).ownBlock with
            | none => exact .inl rfl
            | some q =>
              refine .inr fun e => ?_
              have h1 := (hown4.lt q hv).1
              have h2 := HLT2.out q e.symm
              omega
          have hw1 : w.heap.size ≤ w1.heap.size := HW1.out
          have hb05 := fun (o : Obj) (w5 : World) (hg : (w4.alloc o).grownBy w5 u4.ownBlock) => below_app hb04 (own_base o24 hw1) hb04.size hg
          clear oB r2
          go_wp2_with (first
            | (at_builtin
               refine wpList_append_any _ rfl (.tmp 62) (.tmp 65) _ rfl w1.heap.size 5 i0 _ 1 1 Tryz.underlying66 hi0 hz0 hz1 hz2 rfl (by omega) u4 (hdT L).length (bs (hdT L)) rfl
                 (o24.alloc _) (w4.heap.size + 1) (some ⟨w4.heap.size, 0, none⟩) 1 1 [.int .u8 (K : Int)] rfl (Reads.new w4 _ _) (one_int _ _) (by unfold maxLen; omega) (by omega) (by simp; omega) ?_
               intro v5 w5 hown5 hg5 hat5
               have o45 := (hown4.alloc (.cells #[.int .u8 (K : Int)] 5)).kept hg5 hne
               have hb5 := hb05 _ _ hg5
               have r4 := Reads.of_own o45)
            | (at_builtin
               refine wpList_append_any _ rfl (.tmp 66) (.tmp 67) _ rfl w1.heap.size 5 i0 _ 1 1 Tryz.underlying66 hi0 hz0 hz1 hz2 rfl (by omega) v5 ((hdT L).length + 1) (bs (hdT L) ++ [.int .u8 (K : Int)]) rfl
                 hown5 w5.heap.size A4 (packB K P).length c4 (bs (packB K P)) rfl r4 (bs_one _) (by unfold maxLen; omega) (by omega) (by have := hg5.size; simp at this; omega) ?_
               intro v6 w6 hown6 hg6 hat6))
          go_ret
          have hb6 := hb5.grown hg6 hb5.size (fun q hq => by have := (hown5.lt q hq).1; omega)
          have hd : bs (hdT L) ++ [.int .u8 (K : Int)] ++ bs (packB K P) = bs (txf l) := by
            rw [HD.out, bs_append, bs_append]; rfl
          have hdl2 : (hdT L).length + 1 + (packB K P).length = (txf l).length := by
            rw [HD.out, List.length_append, List.length_append]; rfl
          rw [hd, hdl2] at hown6
          exact ⟨v6, rfl, own_base hown6 hw1, hb6⟩
end Go.Proofs.YtpgdlmnhomnblaaGreatDoor
