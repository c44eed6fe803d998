/- Texts joined: TxRefPlace TxSlice TxRefList TxRefPut CkRefLay. -/
import Derived.BigQuiet
import Derived.Deep.QuietTactic
import Derived.Test.YthlfplljbbnaoaaGreatDoorJ9
import Derived.Test.YthlfplljbbnaoaaGreatDoorJ8
import Derived.Test.YthlfplljbbnaoaaGreatDoorJ22
import Derived.Test.YthlfplljbbnaoaaGreatDoorJ16
import Derived.Test.YthlfplljbbnaoaaGreatDoorK2
import Derived.Test.YthlfplljbbnaoaaGreatDoorK1
import Derived.Test.YthlfplljbbnaoaaGreatDoorJ17
import Derived.Test.YthlfplljbbnaoaaGreatDoorJ12
/- Contract of the document's Place: where a text stands among others, or would; and whether it does. -/
namespace Go.Proofs.YthlfplljbbnaoaaGreatDoor
open Go.RowKit
set_option linter.unusedVariables false
set_option linter.unusedSimpArgs false
set_option maxRecDepth 100000

/-- It stands there. -/
def isT (L : List Tx) (s : Tx) : Bool := decide (L[whT L s]? = some s)
set_option maxHeartbeats 1000000 in
theorem refPlace_any (A : Option Addr) (n c : Nat) (L : List Tx) (s : Tx) (w : World) (hr : Reads w w.heap.size 1 A n (ts L)) (hn : n ≤ 140737488355328) :
    Calls Tryz.prog 132 #[.slice A n c, .string ⟨s.toArray⟩] w fun e w' => e = .returned (.tuple #[.int .i64 (whT L s : Int), .bool (isT L s)]) ∧ Drawn w w' := by
  have e1 : L.length = n := by have := hr.1; rw [ts_length] at this; omega
  have HE : Hid (L.length = n) := Lib.hid e1
  clear e1
  go_enter Tryz.func132, Tryz.ntmps132
  go_wp2_with fail
  go_loop [6] (fun i => ∃ k : Nat, k ≤ n ∧ i = .int .i64 (k : Int) ∧ Hid (∀ (j : Nat) (y : Tx), j < k → L[j]? = some y → tlt y s)) (fun i => n - (intOf i).toNat)
  case atStart => exact ⟨0, Nat.zero_le _, rfl, Lib.hid (fun j y h => absurd h (by omega))⟩
  case round =>
    obtain ⟨k, hk, rfl, HA⟩ := hrel
    by_cases hlt : k < n
    · obtain ⟨ad, u, rfl, _, hu, hc⟩ := hr.at_ hlt
      obtain ⟨y, hy, rfl⟩ := ts_at hu
      by_cases hys : tlt y s
      · have q1 := less_of hys
        have HA2 : Hid (∀ (j : Nat) (y : Tx), j < k + 1 → L[j]? = some y → tlt y s) := Lib.hid fun j x hj hx => by
          by_cases h : j = k
          · subst h; rw [hy] at hx; injection hx with hx; subst hx; exact hys
          · exact HA.out j x (by omega) hx
        clear hu hy hys
        go_wp2_with fail
        go_round
        case rel => exact ⟨k + 1, by omega, by go_num, HA2⟩
        case measure => simp [intOf]; omega
      · have q1 := less_not hys
        have HW : Hid (whT L s = k) := Lib.hid (whT_of (by rw [HE.out]; exact hk) HA.out (fun x hx => by rw [hy] at hx; injection hx with hx; subst hx; exact hys))
        have HI : Hid (isT L s = (y == s)) := Lib.hid (by
          unfold isT
          rw [HW.out, hy]
          by_cases h : y = s
          · simp [h]
          · simp [h])
        clear hu hy hys
        go_wp2_with fail
        go_quiet (fail)
        go_wp2_with fail
        go_ret2
        exact ⟨by rw [HW.out, HI.out]; rfl, Drawn.one _ _⟩
    · obtain rfl : k = n := by omega
      have HW : Hid (whT L s = k) := Lib.hid (whT_of (by rw [HE.out]; exact hk) HA.out (fun x hx => by have := (List.getElem?_eq_some_iff.1 hx).1; have := HE.out; omega))
      have HI : Hid (isT L s = false) := Lib.hid (by
        unfold isT
        rw [HW.out, List.getElem?_eq_none (by rw [HE.out]; exact Nat.le_refl _)]
        simp)
      have d1 : decide ((k : Int) < (k : Int)) = false := by simp
      go_wp2_with fail
      go_quiet (fail)
      go_wp2_with fail
      go_ret2
      exact ⟨by rw [HW.out, HI.out]; rfl, Drawn.one _ _⟩
end Go.Proofs.YthlfplljbbnaoaaGreatDoor

/- Slices of a row of texts, whatever their address, over this program. No condition. -/
namespace Go.Proofs.YthlfplljbbnaoaaGreatDoor
open Go.RowKit
set_option linter.unusedVariables false
set_option linter.unusedSimpArgs false
set_option maxRecDepth 100000

theorem add_zero_ (a : Addr) : a.add 0 = a := by unfold Addr.add; simp
theorem map_add_zero (A : Option Addr) : A.map (·.add 0) = A := by cases A <;> simp [add_zero_]
theorem elem_str : Tryz.prog.elem 88 = 9 := by kernel_rfl
theorem sizeOf_str (W : World) : (sizeOf 9).run Tryz.prog W = .ok 1 W := by
  obtain ⟨i0, hi0, hz0, hz1, hz2⟩ := info_parts info_str
  simp [sizeOf, typeInfo, hi0, hz1]
theorem slice_front (A : Option Addr) (n c p : Nat) (hp : p ≤ c) (W : World) : (Instr.sliceAt 88 (.slice A n c) none (some (.int .i64 (p : Int))) none).run Tryz.prog W = .ok (.slice A p c) W := by
  rw [run_sliceAt_slice W 88 _ _ _ _ (by rw [elem_str]; exact Tryz.underlying88), run_slice_h W 88 A n c (by rw [elem_str]; exact Tryz.underlying88) .i64 (p : Int) (by omega) (by omega), elem_str, sizeOf_str]
  have h : (if c = 0 then A else A.map (·.add 0)) = A := by rw [map_add_zero]; simp
  simp [Result.andThen, sliced, map_add_zero]
theorem slice_rest (A : Option Addr) (n c p : Nat) (hp : p ≤ n) (W : World) : (Instr.sliceAt 88 (.slice A n c) (some (.int .i64 (p : Int))) none none).run Tryz.prog W = .ok (.slice (if c = p then A else A.map (·.add p)) (n - p) (c - p)) W := by
  rw [run_sliceAt_slice W 88 _ _ _ _ (by rw [elem_str]; exact Tryz.underlying88), run_slice_l W 88 A n c (by rw [elem_str]; exact Tryz.underlying88) .i64 (p : Int) (by omega) (by omega), elem_str, sizeOf_str]
  simp [Result.andThen, sliced]
end Go.Proofs.YthlfplljbbnaoaaGreatDoor

/- Contract of the document's list of texts. -/
namespace Go.Proofs.YthlfplljbbnaoaaGreatDoor
open Go.RowKit
set_option linter.unusedVariables false
set_option linter.unusedSimpArgs false
set_option maxRecDepth 100000

set_option maxHeartbeats 2000000 in
theorem refListT_any (A : Option Addr) (n c : Nat) (l : List Tx) (w : World) (hr : Reads w w.heap.size 1 A n (ts l)) (hn : n ≤ 65536) :
    Calls Tryz.prog 130 #[.slice A n c] w (NewT w (lstT l)) := by
  obtain ⟨i1, hi1, hy0, hy1, hy2⟩ := info_parts info_str
  have e1 : l.length = n := by have := hr.1; rw [ts_length] at this; omega
  have E1 := Lib.hid e1
  clear e1
  go_enter Tryz.func130, Tryz.ntmps130
  go_wp2_with fail
  go_loopw [3, 4] (fun s3 s4 wr => ∃ k : Nat, k ≤ n ∧ s4 = .int .i64 (k : Int) ∧ wr.ownsRow w.heap.size 9 1 s3 (lstT (l.take k)).length (ts (lstT (l.take k))) ∧ Below w.heap.size w wr) (fun _ i _ => n - (intOf i).toNat)
  case atStart => exact ⟨0, Nat.zero_le _, rfl, own_nil _ _ _ _, Below.refl _ _⟩
  case round =>
    obtain ⟨k, hk, rfl, hown, hb⟩ := hrel
    by_cases hlt : k < n
    · obtain ⟨ad, u, rfl, hadb, hu, hc⟩ := (hr.below hb).at_ hlt
      obtain ⟨z, hz, rfl⟩ := ts_at hu
      have hzc : ∀ W : World, Below w.heap.size w W → W.cell? (ad.add k) = some (.string ⟨z.toArray⟩) := fun W h => by
        obtain ⟨ad', u', e, _, h1, h2⟩ := (hr.below h).at_ hlt
        injection e with e
        subst e
        rw [ts_get hz] at h1
        injection h1 with h1
        subst h1
        exact h2
      have HZC := Lib.hid hzc
      have hol := lstT_length (l.take k)
      have htk : (l.take k).length ≤ k := List.length_take_le _ _
      have HS : Hid (lstT (l.take (k + 1)) = insT z (lstT (l.take k))) := Lib.hid (by rw [take_snoc hz, lstT_snoc])
      obtain ⟨o, ho⟩ : ∃ o, o = lstT (l.take k) := ⟨_, rfl⟩
      obtain ⟨N, hN⟩ : ∃ N, N = o.length := ⟨_, rfl⟩
      rw [← ho] at hown hol HS
      rw [← hN] at hown hol
      have HN := Lib.hid hN
      obtain ⟨A3, c3, rfl, hc3, _, r3⟩ := own_slice hown
      have hp := whT_le o z
      rw [← hN] at hp
      have HPL := Lib.hid (refPlace_any A3 N c3 o z wr r3 (by omega))
      obtain ⟨p, hp0⟩ : ∃ p, p = whT o z := ⟨_, rfl⟩
      have hNk : N ≤ k := by omega
      rw [← hp0] at hp HPL
      cases hI : isT o z with
      | true =>
        have HE : Hid (insT z o = o) := Lib.hid (insT_old (by unfold isT at hI; simpa using hI))
        rw [hI] at HPL
        clear hu hz ho hzc hadb hI hN hp0
        go_wp2_with fail
        refine HPL.out.mono ?_
        rintro e w1 ⟨rfl, hd⟩
        have hown1 : w1.ownsRow w.heap.size 9 1 (.slice A3 N c3) N (ts o) := by
          obtain ⟨q, rfl⟩ := hd
          exact hown
        go_wp2_with fail
        go_round
        case rel =>
          refine ⟨k + 1, by omega, by go_num, ?_, hd.below hb⟩
          rw [HS.out, HE.out, ← HN.out]
          exact hown1
        case measure => simp [intOf]; omega
      | false =>
        have HE : Hid (insT z o = o.take p ++ z :: o.drop p) := Lib.hid (by rw [hp0]; exact insT_new (by unfold isT at hI; simpa using hI))
        rw [hI] at HPL
        clear hu hz ho hzc hadb hI hp0 hN
        go_wp2_with fail
        refine HPL.out.mono ?_
        rintro e w1 ⟨rfl, hd⟩
        have hb1 := hd.below hb
        have r31 := r3.next (hd.below (Below.refl _ _))
        have hF := r31.fore (k := p) hp
        simp only [Nat.mul_one] at hF
        rw [ts_take] at hF
        have hcap : N ≤ c3 := hc3
        have hD := r31.cut (k := p) (cap := c3) hp hc3
        simp only [Nat.mul_one] at hD
        rw [ts_drop] at hD
        have hzw := HZC.out _ hb1
        have hN3 : (o.take p).length = p := by rw [List.length_take]; have := HN.out; omega
        have HN3 := Lib.hid hN3
        clear r3 hc hb hown hN3 hd
        have hs1 := slice_front A3 N c3 p (by omega)
        have hs2 := slice_rest A3 N c3 p hp
        obtain ⟨A4, hA4⟩ : ∃ A4, (if c3 = p then A3 else A3.map (·.add p)) = A4 := ⟨_, rfl⟩
        rw [hA4] at hs2 hD
        have HS2 := Lib.hid hs2
        clear hA4 r31 hs2
        have HL : Hid (ts (o.take p) ++ [Value.string ⟨z.toArray⟩] ++ ts (o.drop p) = ts (insT z o) ∧ p + 1 + (N - p) = (insT z o).length) := Lib.hid (by
          rw [HE.out]
          refine ⟨by simp [ts], ?_⟩
          rw [List.length_append, List.length_cons, HN3.out, List.length_drop]
          have := HN.out
          omega)
        go_wp2_with (first
          | (at_builtin
             refine wpList_append_any _ rfl (.tmp 25) (.tmp 28) _ rfl w1.heap.size 9 i1 _ 1 16 Tryz.underlying88 hi1 hy0 hy1 hy2 rfl (by omega) (.slice (some ⟨w1.heap.size, 0, none⟩) 0 0) 0 [] rfl
               (World.ownsRow_made w1 #[] 0 (Nat.le_refl _) (Nat.zero_le _) rfl) w1.heap.size A3 p c3 (ts (o.take p)) rfl (hF.alloc (Nat.le_refl _) _) (ts_one _) (by unfold maxLen; omega) (by omega) (by simp) ?_
             intro v5 w5 hown5 hg5 hat5
             rw [Nat.zero_add, List.nil_append] at hown5
             simp only [Nat.zero_add]
             have hb5 : Below w1.heap.size w1 w5 := ((Below.refl _ w1).alloc (Nat.le_refl _) _).grown hg5 (by simp) (by intro k hk; simp [Value.ownBlock] at hk; omega)
             have hz5 := HZC.out _ (hb1.trans (hb5.mono hb1.size))
             have h15 := hb5.size
             clear hs1 hF hg5 hat5
             have hs2 := HS2.out)
          | (at_builtin
             refine wpList_append_any _ rfl (.tmp 30) (.tmp 35) _ rfl w1.heap.size 9 i1 _ 1 16 Tryz.underlying88 hi1 hy0 hy1 hy2 rfl (by omega) v5 p (ts (o.take p)) rfl
               (hown5.alloc _) (w5.heap.size + 1) (some ⟨w5.heap.size, 0, none⟩) 1 1 [.string ⟨z.toArray⟩] rfl (Reads.new w5 _ _) (ts_one [z]) (by unfold maxLen; omega) (by omega) (by simp; omega) ?_
             intro v6 w6 hown6 hg6 hat6
             have hb6 := below_app hb5 hown5 h15 hg6
             have hD6 := hD.next hb6
             have h16 := hb6.size
             clear hg6 hat6 hown5)
          | (at_builtin
             refine wpList_append_any _ rfl (.tmp 37) (.tmp 40) _ rfl w1.heap.size 9 i1 _ 1 16 Tryz.underlying88 hi1 hy0 hy1 hy2 rfl (by omega) v6 (p + 1) (ts (o.take p) ++ [.string ⟨z.toArray⟩]) rfl
               hown6 w6.heap.size A4 (N - p) (c3 - p) (ts (o.drop p)) rfl hD6 (ts_one _) (by unfold maxLen; omega) (by omega) h16 ?_
             intro v7 w7 hown7 hg7 hat7))
        go_round
        case rel =>
          refine ⟨k + 1, by omega, by go_num, ?_, (hb1.trans (hb6.mono hb1.size)).grown hg7 (hb1.trans (hb6.mono hb1.size)).size (fun j hj => by have := (hown6.lt j hj).1; have := hb1.size; omega)⟩
          rw [HS.out, ← HL.out.1, ← HL.out.2]
          exact own_base hown7 hb1.size
        case measure => simp [intOf]; omega
    · obtain rfl : k = n := by omega
      rw [List.take_of_length_le (by rw [E1.out]; exact Nat.le_refl _)] at hown
      go_wp2_with fail
      go_ret
      exact ⟨_, rfl, hown, hb⟩
end Go.Proofs.YthlfplljbbnaoaaGreatDoor

/- The document's form of texts. -/
namespace Go.Proofs.YthlfplljbbnaoaaGreatDoor
open Go.RowKit
set_option linter.unusedVariables false
set_option linter.unusedSimpArgs false
set_option maxRecDepth 100000

theorem refBlob_any (A : Option Addr) (n c : Nat) (p : List Nat) (w : World) (hr : Reads w w.heap.size 1 A n (bs p)) (hn : n ≤ 140737488355300) :
    Calls Tryz.prog 131 #[.slice A n c] w (New w (bs (blob p)) (blob p).length) := by
  obtain ⟨i0, hi0, hz0, hz1, hz2⟩ := info_parts info_u8
  have e1 : p.length = n := by have := hr.1; rw [bs_length] at this; omega
  have HB : Hid (vb n ++ p = blob p) := Lib.hid (by unfold blob; rw [e1])
  have HL : Hid ((vb n).length + n = (blob p).length) := Lib.hid (by rw [blob_length, e1])
  have hv := (vb_length n).2
  have hnw : IntKind.u64.wrap (n : Int) = (n : Int) := IntWalk.u64_in _ (by omega)
  clear e1
  go_enter Tryz.func131, Tryz.ntmps131
  go_wp2_with fail
  refine (refVar_any n w (by omega)).mono ?_
  rintro e w1 ⟨v1, rfl, hown1, hb1⟩
  have r1 := hr.next hb1
  go_wp2_with (at_builtin
               refine wpList_append_any _ rfl (.tmp 6) (.tmp 7) _ rfl w.heap.size 5 i0 _ 1 1 Tryz.underlying25 hi0 hz0 hz1 hz2 rfl (by omega) v1 (vb n).length (bs (vb n)) rfl
                 hown1 w1.heap.size A n c (bs p) rfl r1 (bs_one _) (by unfold maxLen; omega) (by omega) hb1.size ?_
               intro v3 w3 hown3 hg3 hat3)
  go_ret
  rw [← bs_append, HB.out, HL.out] at hown3
  exact ⟨v3, rfl, hown3, hb1.grown hg3 hb1.size (fun k hk => (hown1.lt k hk).1)⟩
theorem plcT_step {l : List Tx} {k : Nat} {z : Tx} (h : l[k]? = some z) : (plcT l).take (k + 1) = (plcT l).take k ++ [whT (lstT l) z] := take_snoc (by unfold plcT; rw [List.getElem?_map, h]; rfl)
set_option maxHeartbeats 2000000 in
theorem refTx_any (A : Option Addr) (n c : Nat) (l : List Tx) (w : World) (hr : Reads w w.heap.size 1 A n (ts l)) (hn : n ≤ 65536) (hq : ∀ s ∈ l, s.length ≤ 65536) :
    Calls Tryz.prog 68 #[.slice A n c] w (New w (bs (txf l)) (txf l).length) := by
  obtain ⟨i0, hi0, hz0, hz1, hz2⟩ := info_parts info_u8
  obtain ⟨i1, hi1, hy0, hy1, hy2⟩ := info_parts info_u64
  have e1 : l.length = n := by have := hr.1; rw [ts_length] at this; omega
  have E1 := Lib.hid e1
  have hLl := lstT_length l
  rw [e1] at hLl
  have hcl := refListT_any A n c l w hr hn
  have HRI : Hid (RiseT (lstT l)) := Lib.hid (lstT_rise l)
  have HMM : Hid (∀ z ∈ l, z ∈ lstT l) := Lib.hid fun z hz => (lstT_mem l z).2 hz
  have hqL := lstT_long hq
  obtain ⟨L, hL⟩ : ∃ L, L = lstT l := ⟨_, rfl⟩
  obtain ⟨N, hN⟩ : ∃ N, N = L.length := ⟨_, rfl⟩
  rw [← hL] at hcl hLl HRI HMM hqL
  unfold NewT at hcl
  rw [← hN] at hcl hLl
  have HHD : Hid (hdT L = vb N ++ blbs L) := Lib.hid (by unfold hdT; rw [hN])
  have HN := Lib.hid hN
  have HL := Lib.hid hL
  have HQ := Lib.hid hqL
  have HQL := Lib.hid hq
  have HFL := Lib.hid (fun k (hk : k ≤ N) => front_le L N k hk (by omega) hqL)
  have HC := Lib.hid hcl
  clear hcl e1 hL hN hq hqL
  go_enter Tryz.func68, Tryz.ntmps68
  go_wp2_with fail
  refine HC.out.mono ?_
  rintro e w1 ⟨v1, rfl, hown1, hb1⟩
  obtain ⟨A1, c1, rfl, hc1, _, r1⟩ := own_slice hown1
  clear hown1
  have hNc : IntKind.u64.wrap (N : Int) = (N : Int) := by rw [u64w]; omega
  go_wp2_with fail
  refine (refVar_any N w1 (by omega)).mono ?_
  rintro e w2 ⟨v2, rfl, hown2, hb2⟩
  go_wp2_with fail
  go_loopw [4, 5] (fun s4 s5 wr => ∃ k : Nat, k ≤ N ∧ s5 = .int .i64 (k : Int) ∧ wr.ownsRow w1.heap.size 5 1 s4 (vb N ++ blbs (L.take k)).length (bs (vb N ++ blbs (L.take k))) ∧ Below w1.heap.size w1 wr) (fun _ i _ => N - (intOf i).toNat)
  case atStart => exact ⟨0, Nat.zero_le _, rfl, by simpa [blbs] using hown2, hb2⟩
  case round =>
    clear hown2 hb2
    obtain ⟨k, hk, rfl, hown, hb⟩ := hrel
    have hsz := hb.size
    have hwl := HFL.out k hk
    by_cases hlt : k < N
    · obtain ⟨ad, u, rfl, _, hu, hc⟩ := (r1.below hb).at_ hlt
      obtain ⟨z, hz, rfl⟩ := ts_at hu
      have hzl := HQ.out z (List.mem_of_getElem? hz)
      have HST := Lib.hid (blbs_step hz)
      have HBZ := Lib.hid (blobT_is z)
      have hbl : (blbT z).length ≤ 65546 := by have := blbT_length (s := z); omega
      have hcv := conv_is z
      have hbc := conv_below wr z
      have hrc := conv_reads wr z
      clear hu hz
      go_wp2_with fail
      refine (refBlob_any _ z.length _ (nb z) _ hrc (by omega)).mono ?_
      intro e2 w2' hN2
      obtain ⟨A2, c2, rfl, _, hr2, hb2⟩ := hN2.opened
      rw [HBZ.out] at hr2
      rw [HBZ.out]
      have hbw2 : Below wr.heap.size wr w2' := hbc.trans (hb2.mono hbc.size)
      have hown2 := own_below hown hbw2
      have hb02 := hb.trans (hbw2.mono hb.size)
      clear hcv hbc hrc hb2 hN2
      go_wp2_with (at_builtin
                   refine wpList_append_any _ rfl (.tmp 25) (.tmp 31) _ rfl w1.heap.size 5 i0 _ 1 1 Tryz.underlying25 hi0 hz0 hz1 hz2 rfl (by omega) u4 (vb N ++ blbs (L.take k)).length (bs (vb N ++ blbs (L.take k))) rfl
                     hown2 w2'.heap.size A2 (blbT z).length c2 (bs (blbT z)) rfl hr2 (bs_one _) (by unfold maxLen; omega) (by omega) hb02.size ?_
                   intro v3 w3 hown3 hg3 hat3)
      go_round
      case rel =>
        refine ⟨k + 1, by omega, by go_num, ?_, hb02.grown hg3 hb02.size (fun j hj => (hown2.lt j hj).1)⟩
        rw [HST.out, ← List.append_assoc, List.length_append, bs_append]
        exact hown3
      case measure => simp [intOf]; omega
    · obtain rfl : k = N := by omega
      rw [List.take_of_length_le (by rw [HN.out]; exact Nat.le_refl _), ← HHD.out] at hown hwl
      obtain ⟨B, hB⟩ : ∃ B, B = wr.heap.size := ⟨_, rfl⟩
      have hb0r := hb1.trans (hb.mono hb1.size)
      have hwB : w.heap.size ≤ B := by rw [hB]; exact hb0r.size
      have h1B : w1.heap.size ≤ B := by rw [hB]; exact hsz
      have HR1 := Lib.hid (fun (W : World) (h : Below B wr W) => (show Reads W W.heap.size 1 A1 k (ts L) from ((r1.below hb).more h1B |>.below h).more (by have := h.size; rw [hB]; omega)))
      have HBT := Lib.hid (fun (W : World) (h : Below B wr W) => (show Below w.heap.size w W from hb0r.trans (h.mono hwB)))
      have HW1 := Lib.hid hb1.size
      have HOB := Lib.hid (fun (W : World) (h : Below B wr W) => own_below hown (by rw [← hB]; exact h))
      have hlts := hown.lt
      rw [← hB] at hlts
      have HLT := Lib.hid hlts
      have hbB : Below B wr wr := Below.refl _ _
      have hBw : B ≤ wr.heap.size := by rw [hB]; exact Nat.le_refl _
      have HPL : Hid ((plcT l).length = n) := Lib.hid (by rw [plcT_length, E1.out])
      clear hB hb0r r1 hown hb hb1 hlts
      go_wp2_with fail
      go_loopw [6, 7] (fun s6 s7 wx => ∃ i : Nat, i ≤ n ∧ s7 = .int .i64 (i : Int) ∧ wx.ownsRow B 61 1 s6 i (us ((plcT l).take i)) ∧ Below B wr wx ∧ B ≤ wx.heap.size) (fun _ i _ => n - (intOf i).toNat)
      case atStart => exact ⟨0, Nat.zero_le _, rfl, own_nil _ _ _ _, hbB, hBw⟩
      case round =>
        clear hbB hBw
        obtain ⟨i, hi, rfl, hown2, hb2, hBs⟩ := hrel
        by_cases hlt2 : i < n
        · obtain ⟨ad, u, rfl, had, hu, hc⟩ := (hr.below (HBT.out _ hb2)).at_ hlt2
          obtain ⟨z, hz, rfl⟩ := ts_at hu
          have hpz := whT_le L z
          rw [← HN.out] at hpz
          have HPS : Hid ((plcT l).take (i + 1) = (plcT l).take i ++ [whT L z]) := Lib.hid (by rw [plcT_step hz, HL.out])
          have HPC := Lib.hid (refPlace_any A1 k c1 L z _ (HR1.out _ hb2) (by omega))
          obtain ⟨p, hp⟩ : ∃ p, p = whT L z := ⟨_, rfl⟩
          rw [← hp] at hpz HPS HPC
          have hpc : IntKind.u64.wrap (p : Int) = (p : Int) := by rw [u64w]; omega
          clear hu hz hp had
          go_wp2_with fail
          refine HPC.out.mono ?_
          rintro e w3 ⟨rfl, hd3⟩
          have hb3 := hd3.below hb2
          have hown3 : w3.ownsRow B 61 1 u6 i (us ((plcT l).take i)) := by obtain ⟨q, rfl⟩ := hd3; exact hown2
          have hBs3 : B ≤ w3.heap.size := by obtain ⟨q, rfl⟩ := hd3; exact hBs
          clear hd3 hb2 hown2 hBs hc
          go_wp2_with (at_builtin
                       refine wpList_append_any _ rfl (.tmp 48) (.tmp 51) _ rfl B 61 i1 _ 1 8 Tryz.underlying125 hi1 hy0 hy1 hy2 rfl (by omega) u6 i (us ((plcT l).take i)) rfl
                         (hown3.alloc _) (w3.heap.size + 1) (some ⟨w3.heap.size, 0, none⟩) 1 1 [.int .u64 (p : Int)] rfl (Reads.new w3 _ _) (one_int _ _) (by unfold maxLen; omega) (by omega) (by simp; omega) ?_
                       intro v4 w4 hown4 hg4 hat4)
          go_round
          case rel =>
            refine ⟨i + 1, by omega, by go_num, ?_, below_app hb3 hown3 hBs3 hg4, by have := hg4.size; simp at this; omega⟩
            rw [HPS.out, us_append]
            exact hown4
          case measure => simp [intOf]; omega
        · obtain rfl : i = n := by omega
          rw [List.take_of_length_le (by rw [HPL.out]; exact Nat.le_refl _)] at hown2
          obtain ⟨P, hP⟩ : ∃ P, P = plcT l := ⟨_, rfl⟩
          obtain ⟨K, hK⟩ : ∃ K, K = wd P := ⟨_, rfl⟩
          have hKb : blen (k - 1) = K := by rw [hK, hP, wd_plcT, ← HL.out, ← HN.out]
          have hK16 : K ≤ 16 := by rw [hK, hP]; exact wd_plcT_le l (by rw [E1.out]; exact hn)
          have hP64 : ∀ a ∈ P, a < 18446744073709551616 := fun a ha => by
            rw [hP] at ha
            have h1 := plcT_lt l a ha
            have h2 := lstT_length l
            rw [E1.out] at h2
            omega
          have hdp := (txf_parts l (by rw [E1.out]; exact hn) HQL.out).2
          have HD : Hid (txf l = hdT L ++ [K] ++ packB K P) := Lib.hid (by unfold txf; rw [hK, hP, HL.out])
          rw [← hP] at hown2 hdp
          rw [← hK] at hdp
          have HKB := Lib.hid hKb; have HK := Lib.hid hK; have H64 := Lib.hid hP64
          obtain ⟨A2, c2, rfl, _, _, r2⟩ := own_slice hown2
          have oB := HOB.out _ hb2
          have hb0 := HBT.out _ hb2
          have HLT2 := Lib.hid (fun q (hq : u4.ownBlock = some q) => Nat.lt_of_lt_of_le (HLT.out q hq).2 hBs)
          clear hKb hK hP64 hP hown2
          go_wp2_with fail
          refine (refWidthD_any k wr (by omega)).mono ?_
          rintro e w' ⟨rfl, rfl⟩
          rw [HKB.out]
          go_wp2_with fail
          refine (refPack_fit A2 i c2 P _ K rfl wr r2 H64.out (by omega) (by omega) (by rw [HK.out]; exact Nat.le_refl _)).mono ?_
          rintro e w4 ⟨v4, rfl, hown4, hb4⟩
          obtain ⟨A4, c4, rfl, _, _, _⟩ := own_slice hown4
          have o24 := own_below oB hb4
          have hb04 := hb0.trans (hb4.mono hb0.size)
          have t0 := hb0.size
          have t4 := hb4.size
          have hne : (Value.slice A4 (packB K P).length c4).ownBlock = none ∨ (Value.slice A4 (packB K P).length c4).ownBlock ≠ u4.ownBlock := by
            cases hv : (Value.slice A4 (packB K P).length c4).ownBlock with
            | none => exact .inl rfl
            | some q =>
              refine .inr fun e => ?_
              have h1 := (hown4.lt q hv).1
              have h2 := HLT2.out q e.symm
              omega
          have hw1 : w.heap.size ≤ w1.heap.size := HW1.out
          have hb05 := fun (o : Obj) (w5 : World) (hg : (w4.alloc o).grownBy w5 u4.ownBlock) => below_app hb04 (own_base o24 hw1) hb04.size hg
          clear oB r2
          go_wp2_with (first
            | (at_builtin
               refine wpList_append_any _ rfl (.tmp 62) (.tmp 65) _ rfl w1.heap.size 5 i0 _ 1 1 Tryz.underlying25 hi0 hz0 hz1 hz2 rfl (by omega) u4 (hdT L).length (bs (hdT L)) rfl
                 (o24.alloc _) (w4.heap.size + 1) (some ⟨w4.heap.size, 0, none⟩) 1 1 [.int .u8 (K : Int)] rfl (Reads.new w4 _ _) (one_int _ _) (by unfold maxLen; omega) (by omega) (by simp; omega) ?_
               intro v5 w5 hown5 hg5 hat5
               have o45 := (hown4.alloc (.cells #[.int .u8 (K : Int)] 5)).kept hg5 hne
               have hb5 := hb05 _ _ hg5
               have r4 := Reads.of_own o45)
            | (at_builtin
               refine wpList_append_any _ rfl (.tmp 66) (.tmp 67) _ rfl w1.heap.size 5 i0 _ 1 1 Tryz.underlying25 hi0 hz0 hz1 hz2 rfl (by omega) v5 ((hdT L).length + 1) (bs (hdT L) ++ [.int .u8 (K : Int)]) rfl
                 hown5 w5.heap.size A4 (packB K P).length c4 (bs (packB K P)) rfl r4 (bs_one _) (by unfold maxLen; omega) (by omega) (by have := hg5.size; simp at this; omega) ?_
               intro v6 w6 hown6 hg6 hat6))
          go_ret
          have hb6 := hb5.grown hg6 hb5.size (fun q hq => by have := (hown5.lt q hq).1; omega)
          have hd : bs (hdT L) ++ [.int .u8 (K : Int)] ++ bs (packB K P) = bs (txf l) := by
            rw [HD.out, bs_append, bs_append]; rfl
          have hdl2 : (hdT L).length + 1 + (packB K P).length = (txf l).length := by
            rw [HD.out, List.length_append, List.length_append]; rfl
          rw [hd, hdl2] at hown6
          exact ⟨v6, rfl, own_base hown6 hw1, hb6⟩
end Go.Proofs.YthlfplljbbnaoaaGreatDoor

/- Contract of the document's chunk of values in a way. -/
namespace Go.Proofs.YthlfplljbbnaoaaGreatDoor
open Go.RowKit
set_option linter.unusedVariables false
set_option linter.unusedSimpArgs false
set_option maxRecDepth 100000

/-- Is any of the first so many nothing? -/
def anyN (l : List Vl) (k : Nat) : Bool := decide (cnt (non l) k ≠ 0)
theorem anyN_step {l : List Vl} {k : Nat} {v : Vl} (h : l[k]? = some v) : anyN l (k + 1) = (anyN l k || nul v) := by
  unfold anyN
  rw [cnt, non_at h]
  cases hv : nul v with
  | true => simp
  | false => simp
theorem frm_length {way : Nat} {l : List Vl} (hl : l.length ≤ 65536) (hi : ∀ v ∈ l, In64 v.2.1) (ht : ∀ v ∈ l, v.2.2.length ≤ 65536) : (frm way l).length ≤ 4295753740 := by
  have h1 := ints_in hi
  have h2 := ints_length_le l
  have h3 := wrds_length_le l
  have h4 := wrds_short ht
  unfold frm
  split
  · have := (pl_length (ints l)).2; omega
  split
  · have := rf_length (runs (ints l)); have := rc_le (ints l); unfold rc at this; omega
  split
  · have := dl_length (ints l) (by omega); omega
  split
  · have := dc_length (ints l) (by omega); omega
  split
  · have := fo_length h1 (by omega); omega
  · exact txf_length _ (by omega) h4
theorem headB_no {l : List Vl} {n : Nat} (h : l.length = n) (hg : anyN l n = false) : headB l = [0] := by
  subst h
  unfold headB
  rw [if_pos (by simpa [anyN] using hg)]
theorem headB_yes {l : List Vl} {n : Nat} (h : l.length = n) (hg : anyN l n = true) : headB l = [1] ++ setB (non l) n := by
  subst h
  unfold headB
  rw [if_neg (by simpa [anyN] using hg)]; rfl
theorem bs_snoc' (l : List Nat) (b : Nat) : bs l ++ [Value.int .u8 (b : Int)] = bs (l ++ [b]) := by simp [bs]
set_option maxHeartbeats 4000000 in
theorem refLay_any (A : Option Addr) (n c way : Nat) (kd : Int) (l : List Vl) (w : World) (hr : Reads w w.heap.size 3 A n (vs l)) (hn : n ≤ 65536) (hi : ∀ v ∈ l, In64 v.2.1) (hck : ckE kd l = 0) (hw : way ≤ 5) :
    Calls Tryz.prog 24 #[.slice A n c, .int .i64 (way : Int)] w (New w (bs (lyB l way)) (lyB l way).length) := by
  obtain ⟨i0, hi0, hz0, hz1, hz2⟩ := info_parts info_u8
  obtain ⟨i1, hi1, hy0, hy1, hy2⟩ := info_parts info_i64
  obtain ⟨i2, hi2, ha0, ha1, ha2⟩ := info_parts info_str
  obtain ⟨ib, hib, hx0, hx1, hx2⟩ := info_parts info_bool
  have e1 : l.length = n := by have := hr.1; rw [vs_length] at this; omega
  have HE : Hid (l.length = n) := Lib.hid e1
  have HCK := Lib.hid (ckE_ok hck)
  have HI := Lib.hid hi
  clear e1 hck hi
  go_enter Tryz.func24, Tryz.ntmps24
  go_wp2_with fail
  go_loopw [5, 6, 7, 8, 9] (fun s5 s6 s7 s8 s9 wr => ∃ k : Nat, k ≤ n ∧ s9 = .int .i64 (k : Int) ∧ s8 = .bool (anyN l k) ∧
    Thr wr w.heap.size 4 2 9 s5 s6 s7 k (ints (l.take k)).length (wrds (l.take k)).length (bl (non l) k) (zs (ints (l.take k))) (ts (wrds (l.take k))) ∧ Below w.heap.size w wr) (fun _ _ _ _ i _ => n - (intOf i).toNat)
  case atStart => exact ⟨0, Nat.zero_le _, rfl, rfl, Thr.nil _ _ _ _ _, Below.refl _ _⟩
  case round =>
    obtain ⟨k, hk, rfl, rfl, ht, hb⟩ := hrel
    by_cases hlt : k < n
    · obtain ⟨⟨v0, v1, z⟩, hz⟩ : ∃ v, l[k]? = some v := ⟨_, List.getElem?_eq_getElem (by rw [HE.out]; omega)⟩
      have hrd := fun (W : World) (h : Below w.heap.size w W) => (hr.below h).val hz
      obtain ⟨b, o, rfl, hbk, x0, x1, x2⟩ := hrd wr hb
      have HRD : Hid (∀ W, Below w.heap.size w W → W.cell? ⟨b, o + k * 3, none⟩ = some (.int .i64 v0) ∧ W.cell? ⟨b, o + k * 3 + 1, none⟩ = some (.int .i64 v1) ∧ W.cell? ⟨b, o + k * 3 + 2, none⟩ = some (.string ⟨z.toArray⟩)) := Lib.hid fun W h => by
        obtain ⟨b', o', e, _, c0, c1, c2⟩ := hrd W h
        cases e
        exact ⟨c0, c1, c2⟩
      have hli : (ints (l.take k)).length ≤ k := Nat.le_trans (ints_length_le _) (List.length_take_le _ _)
      have hlw : (wrds (l.take k)).length ≤ k := Nat.le_trans (wrds_length_le _) (List.length_take_le _ _)
      have HSI := Lib.hid (ints_step hz)
      have HSW := Lib.hid (wrds_step hz)
      have HSA := Lib.hid (anyN_step hz)
      have HSN := Lib.hid (non_at hz)
      have hkind := rgt_kind (HCK.out.2.2 _ (List.mem_of_getElem? hz))
      obtain ⟨LI, hLI⟩ : ∃ LI, LI = ints (l.take k) := ⟨_, rfl⟩
      obtain ⟨LW, hLW⟩ : ∃ LW, LW = wrds (l.take k) := ⟨_, rfl⟩
      obtain ⟨g, hg⟩ : ∃ g, anyN l k = g := ⟨_, rfl⟩
      rw [← hLI] at ht hli HSI
      rw [← hLW] at ht hlw HSW
      rw [hg] at HSA ⊢
      have hsz := hb.size
      clear hLI hLW hg hrd hz
      rcases hkind with e | ⟨e0, _, e2⟩ | ⟨e0, _, e2⟩
      · cases e
        have HS2 : Hid (ints (l.take (k + 1)) = LI ∧ wrds (l.take (k + 1)) = LW) := Lib.hid ⟨by rw [HSI.out]; simp, by rw [HSW.out]; simp⟩
        clear HSI HSW x1 x2
        cases g
        all_goals
          go_wp2_with (at_builtin
                       refine wpList_append_any _ rfl (.tmp 17) (.tmp 24) _ rfl w.heap.size 4 ib _ 1 1 Tryz.underlying86 hib hx0 hx1 hx2 rfl (by omega) u5 k (bl (non l) k) rfl
                         (ht.a.alloc _) (wr.heap.size + 1) (some ⟨wr.heap.size, 0, none⟩) 1 1 [.bool true] rfl (Reads.new wr _ _) (one_bool _) (by unfold maxLen; omega) (by omega) (by simp; omega) ?_
                       intro v3 w3 hown3 hg3 hat3
                       have hb3 := below_app hb ht.a hsz hg3
                       have hsz3 := hb3.size
                       have ht3 := ht.grown hown3 hg3 hat3
                       obtain ⟨y0, y1, y2⟩ := HRD.out w3 hb3)
          go_round
          case rel =>
            refine ⟨k + 1, by omega, by go_num, by rw [HSA.out]; rfl, ?_, hb3⟩
            rw [HS2.out.1, HS2.out.2, bl_snoc, HSN.out]
            exact ht3
          case measure => simp [intOf]; omega
      · obtain rfl : v0 = 1 := e0
        have HS2 : Hid (ints (l.take (k + 1)) = LI ++ [v1] ∧ wrds (l.take (k + 1)) = LW) := Lib.hid ⟨by rw [HSI.out]; simp, by rw [HSW.out]; simp⟩
        clear HSI HSW e2
        cases g
        all_goals
          go_wp2_with (first
            | (at_builtin
               refine wpList_append_any _ rfl (.tmp 17) (.tmp 24) _ rfl w.heap.size 4 ib _ 1 1 Tryz.underlying86 hib hx0 hx1 hx2 rfl (by omega) u5 k (bl (non l) k) rfl
                 (ht.a.alloc _) (wr.heap.size + 1) (some ⟨wr.heap.size, 0, none⟩) 1 1 [.bool false] rfl (Reads.new wr _ _) (one_bool _) (by unfold maxLen; omega) (by omega) (by simp; omega) ?_
               intro v3 w3 hown3 hg3 hat3
               have hb3 := below_app hb ht.a hsz hg3
               have hsz3 := hb3.size
               have ht3 := ht.grown hown3 hg3 hat3
               obtain ⟨y0, y1, y2⟩ := HRD.out w3 hb3)
            | (at_builtin
               refine wpList_append_any _ rfl (.tmp 41) (.tmp 47) _ rfl w.heap.size 2 i1 _ 1 8 Tryz.underlying87 hi1 hy0 hy1 hy2 rfl (by omega) u6 LI.length (zs LI) rfl
                 (ht3.b.alloc _) (w3.heap.size + 1) (some ⟨w3.heap.size, 0, none⟩) 1 1 [.int .i64 v1] rfl (Reads.new w3 _ _) (by intro u hu; simp at hu; rw [hu]; rfl) (by unfold maxLen; omega) (by omega) (by simp; omega) ?_
               intro v4 w4 hown4 hg4 hat4
               have hb4 := below_app hb3 ht3.b hsz3 hg4
               have ht4 := (ht3.rot.grown hown4 hg4 hat4).rot.rot
               obtain ⟨z0, z1, z2⟩ := HRD.out w4 hb4))
          go_round
          case rel =>
            refine ⟨k + 1, by omega, by go_num, by rw [HSA.out]; rfl, ?_, hb4⟩
            rw [HS2.out.1, HS2.out.2, bl_snoc, HSN.out, zs_append, List.length_append]
            exact ht4
          case measure => simp [intOf]; omega
      · obtain rfl : v0 = 2 := e0
        have HS2 : Hid (ints (l.take (k + 1)) = LI ∧ wrds (l.take (k + 1)) = LW ++ [z]) := Lib.hid ⟨by rw [HSI.out]; simp, by rw [HSW.out]; simp⟩
        clear HSI HSW e2
        cases g
        all_goals
          go_wp2_with (first
            | (at_builtin
               refine wpList_append_any _ rfl (.tmp 17) (.tmp 24) _ rfl w.heap.size 4 ib _ 1 1 Tryz.underlying86 hib hx0 hx1 hx2 rfl (by omega) u5 k (bl (non l) k) rfl
                 (ht.a.alloc _) (wr.heap.size + 1) (some ⟨wr.heap.size, 0, none⟩) 1 1 [.bool false] rfl (Reads.new wr _ _) (one_bool _) (by unfold maxLen; omega) (by omega) (by simp; omega) ?_
               intro v3 w3 hown3 hg3 hat3
               have hb3 := below_app hb ht.a hsz hg3
               have hsz3 := hb3.size
               have ht3 := ht.grown hown3 hg3 hat3
               obtain ⟨y0, y1, y2⟩ := HRD.out w3 hb3)
            | (at_builtin
               refine wpList_append_any _ rfl (.tmp 55) (.tmp 61) _ rfl w.heap.size 9 i2 _ 1 16 Tryz.underlying88 hi2 ha0 ha1 ha2 rfl (by omega) u7 LW.length (ts LW) rfl
                 (ht3.c.alloc _) (w3.heap.size + 1) (some ⟨w3.heap.size, 0, none⟩) 1 1 [.string ⟨z.toArray⟩] rfl (Reads.new w3 _ _) (by intro u hu; simp at hu; rw [hu]; rfl) (by unfold maxLen; omega) (by omega) (by simp; omega) ?_
               intro v4 w4 hown4 hg4 hat4
               have hb4 := below_app hb3 ht3.c hsz3 hg4
               have ht4 := (ht3.rot.rot.grown hown4 hg4 hat4).rot
               obtain ⟨z0, z1, z2⟩ := HRD.out w4 hb4))
          go_round
          case rel =>
            refine ⟨k + 1, by omega, by go_num, by rw [HSA.out]; rfl, ?_, hb4⟩
            rw [HS2.out.1, HS2.out.2, bl_snoc, HSN.out, ts_append, List.length_append]
            exact ht4
          case measure => simp [intOf]; omega
    · obtain rfl : k = n := by omega
      rw [List.take_of_length_le (by rw [HE.out]; exact Nat.le_refl _)] at ht
      have hli : (ints l).length ≤ k := by rw [← HE.out]; exact ints_length_le l
      have hlw : (wrds l).length ≤ k := by rw [← HE.out]; exact wrds_length_le l
      obtain ⟨A5, c5, rfl, hc5, hm5, r5⟩ := own_slice ht.a
      obtain ⟨A6, c6, rfl, hc6, hm6, r6⟩ := own_slice ht.b
      obtain ⟨A7, c7, rfl, hc7, hm7, r7⟩ := own_slice ht.c
      have hII := Lib.hid (ints_in HI.out)
      have hWS := Lib.hid (wrds_short HCK.out.2.1)
      have hFl := frm_length (way := way) (HCK.out.1) HI.out HCK.out.2.1
      obtain ⟨F, hF⟩ : ∃ F, F = frm way l := ⟨_, rfl⟩
      rw [← hF] at hFl
      have HFF := Lib.hid hF
      have hsz := hb.size
      have hww : IntKind.u8.wrap (way : Int) = (way : Int) := IntWalk.u8_in _ (by omega)
      clear hF ht hk hlt
      have HW : Hid (way = 0 ∨ way = 1 ∨ way = 2 ∨ way = 3 ∨ way = 4 ∨ way = 5) := Lib.hid (by omega)
      have HO0 : Hid ((wr.alloc (.cells #[.int .u8 0] 5)).ownsRow wr.heap.size 5 1 (.slice (some ⟨wr.heap.size, 0, none⟩) 1 1) 1 (bs [0])) := Lib.hid (own_new wr #[.int .u8 0] 1 5 (bs [0]) (by unfold maxLen; omega) rfl rfl)
      cases hg : anyN l k with
      | false =>
        have HH := Lib.hid (headB_no HE.out hg)
        clear hg
        rcases HW.out with rfl | rfl | rfl | rfl | rfl | rfl
        · have HC := Lib.hid (fun (W : World) (h : Below wr.heap.size wr W) => (show Calls Tryz.prog 63 #[.slice A6 (ints l).length c6] W (New W (bs F) F.length) from by
            rw [HFF.out]
            exact refPlPut_any A6 _ c6 (ints l) W (r6.next h) hII.out (by omega)))
          have hPl : (headB l ++ [0]).length ≤ 8194 := by rw [HH.out]; simp
          have HRN : Hid (Reads ((wr.alloc (.cells #[.int .u8 0] 5)).alloc (.cells #[.int .u8 0] 5)) (wr.heap.size + 1 + 1) 1 (some ⟨wr.heap.size + 1, 0, none⟩) 1 [.int .u8 0]) := Lib.hid (by
            have := Reads.new (wr.alloc (.cells #[.int .u8 0] 5)) (.int .u8 0) 5
            simpa using this)
          go_wp2_with (first
            | (at_builtin
               refine wpList_append_any _ rfl (.tmp 69) (.tmp 72) _ rfl wr.heap.size 5 i0 _ 1 1 Tryz.underlying25 hi0 hz0 hz1 hz2 rfl (by omega) (.slice (some ⟨wr.heap.size, 0, none⟩) 1 1) 1 (bs [0]) rfl
                 (HO0.out.alloc _) (wr.heap.size + 1 + 1) (some ⟨wr.heap.size + 1, 0, none⟩) 1 1 [.int .u8 0] rfl HRN.out (by intro u hu; simp at hu; rw [hu]; rfl) (by unfold maxLen; omega) (by omega) (by simp <;> omega) ?_
               intro v3 w3 hown3 hg3 hat3
               have hX : w3.ownsRow wr.heap.size 5 1 v3 (headB l ++ [0]).length (bs (headB l ++ [0])) := by rw [HH.out]; exact hown3
               have hbX : Below wr.heap.size wr w3 := (((Below.refl _ _).alloc (Nat.le_refl _) _).alloc (by simp <;> omega) _).grown hg3 (by simp <;> omega) (fun q hq => by simp [Value.ownBlock] at hq; omega))
            | (go_at_call 63; refine (HC.out _ hbX).mono ?_; intro e w4 hN4; obtain ⟨A9, c9, rfl, hc9, r9, hb4⟩ := hN4.opened)
            | (at_builtin
               refine wpList_append_any _ rfl (.tmp 77) (.tmp 79) _ rfl wr.heap.size 5 i0 _ 1 1 Tryz.underlying25 hi0 hz0 hz1 hz2 rfl (by omega) v3 (headB l ++ [0]).length (bs (headB l ++ [0])) rfl
                 (own_below hX hb4) w4.heap.size A9 F.length c9 (bs F) rfl r9 (bs_one _) (by unfold maxLen; omega) (by omega) (by have := hbX.size; have := hb4.size; omega) ?_
               intro v5 w5 hown5 hg5 hat5))
          go_ret
          refine ⟨v5, rfl, ?_, (hb.trans ((hbX.trans (hb4.mono hbX.size)).mono hsz)).grown hg5 (by have := hbX.size; have := hb4.size; omega) (fun q hq => by have := ((own_below hX hb4).lt q hq).1; omega)⟩
          rw [show lyB l 0 = headB l ++ [0] ++ F from by rw [HFF.out]; rfl, bs_append, List.length_append]
          exact own_base hown5 hsz
        · have HC := Lib.hid (fun (W : World) (h : Below wr.heap.size wr W) => (show Calls Tryz.prog 64 #[.slice A6 (ints l).length c6] W (New W (bs F) F.length) from by
            rw [HFF.out]
            exact refRnPut_any A6 _ c6 (ints l) W (r6.next h) hII.out (by omega)))
          have hPl : (headB l ++ [1]).length ≤ 8194 := by rw [HH.out]; simp
          have HRN : Hid (Reads ((wr.alloc (.cells #[.int .u8 0] 5)).alloc (.cells #[.int .u8 1] 5)) (wr.heap.size + 1 + 1) 1 (some ⟨wr.heap.size + 1, 0, none⟩) 1 [.int .u8 1]) := Lib.hid (by
            have := Reads.new (wr.alloc (.cells #[.int .u8 0] 5)) (.int .u8 1) 5
            simpa using this)
          go_wp2_with (first
            | (at_builtin
               refine wpList_append_any _ rfl (.tmp 69) (.tmp 72) _ rfl wr.heap.size 5 i0 _ 1 1 Tryz.underlying25 hi0 hz0 hz1 hz2 rfl (by omega) (.slice (some ⟨wr.heap.size, 0, none⟩) 1 1) 1 (bs [0]) rfl
                 (HO0.out.alloc _) (wr.heap.size + 1 + 1) (some ⟨wr.heap.size + 1, 0, none⟩) 1 1 [.int .u8 1] rfl HRN.out (by intro u hu; simp at hu; rw [hu]; rfl) (by unfold maxLen; omega) (by omega) (by simp <;> omega) ?_
               intro v3 w3 hown3 hg3 hat3
               have hX : w3.ownsRow wr.heap.size 5 1 v3 (headB l ++ [1]).length (bs (headB l ++ [1])) := by rw [HH.out]; exact hown3
               have hbX : Below wr.heap.size wr w3 := (((Below.refl _ _).alloc (Nat.le_refl _) _).alloc (by simp <;> omega) _).grown hg3 (by simp <;> omega) (fun q hq => by simp [Value.ownBlock] at hq; omega))
            | (go_at_call 64; refine (HC.out _ hbX).mono ?_; intro e w4 hN4; obtain ⟨A9, c9, rfl, hc9, r9, hb4⟩ := hN4.opened)
            | (at_builtin
               refine wpList_append_any _ rfl (.tmp 83) (.tmp 85) _ rfl wr.heap.size 5 i0 _ 1 1 Tryz.underlying25 hi0 hz0 hz1 hz2 rfl (by omega) v3 (headB l ++ [1]).length (bs (headB l ++ [1])) rfl
                 (own_below hX hb4) w4.heap.size A9 F.length c9 (bs F) rfl r9 (bs_one _) (by unfold maxLen; omega) (by omega) (by have := hbX.size; have := hb4.size; omega) ?_
               intro v5 w5 hown5 hg5 hat5))
          go_ret
          refine ⟨v5, rfl, ?_, (hb.trans ((hbX.trans (hb4.mono hbX.size)).mono hsz)).grown hg5 (by have := hbX.size; have := hb4.size; omega) (fun q hq => by have := ((own_below hX hb4).lt q hq).1; omega)⟩
          rw [show lyB l 1 = headB l ++ [1] ++ F from by rw [HFF.out]; rfl, bs_append, List.length_append]
          exact own_base hown5 hsz
        · have HC := Lib.hid (fun (W : World) (h : Below wr.heap.size wr W) => (show Calls Tryz.prog 65 #[.slice A6 (ints l).length c6] W (New W (bs F) F.length) from by
            rw [HFF.out]
            exact refDl_any A6 _ c6 (ints l) W (r6.next h) hII.out hc6 (by omega)))
          have hPl : (headB l ++ [2]).length ≤ 8194 := by rw [HH.out]; simp
          have HRN : Hid (Reads ((wr.alloc (.cells #[.int .u8 0] 5)).alloc (.cells #[.int .u8 2] 5)) (wr.heap.size + 1 + 1) 1 (some ⟨wr.heap.size + 1, 0, none⟩) 1 [.int .u8 2]) := Lib.hid (by
            have := Reads.new (wr.alloc (.cells #[.int .u8 0] 5)) (.int .u8 2) 5
            simpa using this)
          go_wp2_with (first
            | (at_builtin
               refine wpList_append_any _ rfl (.tmp 69) (.tmp 72) _ rfl wr.heap.size 5 i0 _ 1 1 Tryz.underlying25 hi0 hz0 hz1 hz2 rfl (by omega) (.slice (some ⟨wr.heap.size, 0, none⟩) 1 1) 1 (bs [0]) rfl
                 (HO0.out.alloc _) (wr.heap.size + 1 + 1) (some ⟨wr.heap.size + 1, 0, none⟩) 1 1 [.int .u8 2] rfl HRN.out (by intro u hu; simp at hu; rw [hu]; rfl) (by unfold maxLen; omega) (by omega) (by simp <;> omega) ?_
               intro v3 w3 hown3 hg3 hat3
               have hX : w3.ownsRow wr.heap.size 5 1 v3 (headB l ++ [2]).length (bs (headB l ++ [2])) := by rw [HH.out]; exact hown3
               have hbX : Below wr.heap.size wr w3 := (((Below.refl _ _).alloc (Nat.le_refl _) _).alloc (by simp <;> omega) _).grown hg3 (by simp <;> omega) (fun q hq => by simp [Value.ownBlock] at hq; omega))
            | (go_at_call 65; refine (HC.out _ hbX).mono ?_; intro e w4 hN4; obtain ⟨A9, c9, rfl, hc9, r9, hb4⟩ := hN4.opened)
            | (at_builtin
               refine wpList_append_any _ rfl (.tmp 89) (.tmp 91) _ rfl wr.heap.size 5 i0 _ 1 1 Tryz.underlying25 hi0 hz0 hz1 hz2 rfl (by omega) v3 (headB l ++ [2]).length (bs (headB l ++ [2])) rfl
                 (own_below hX hb4) w4.heap.size A9 F.length c9 (bs F) rfl r9 (bs_one _) (by unfold maxLen; omega) (by omega) (by have := hbX.size; have := hb4.size; omega) ?_
               intro v5 w5 hown5 hg5 hat5))
          go_ret
          refine ⟨v5, rfl, ?_, (hb.trans ((hbX.trans (hb4.mono hbX.size)).mono hsz)).grown hg5 (by have := hbX.size; have := hb4.size; omega) (fun q hq => by have := ((own_below hX hb4).lt q hq).1; omega)⟩
          rw [show lyB l 2 = headB l ++ [2] ++ F from by rw [HFF.out]; rfl, bs_append, List.length_append]
          exact own_base hown5 hsz
        · have HC := Lib.hid (fun (W : World) (h : Below wr.heap.size wr W) => (show Calls Tryz.prog 66 #[.slice A6 (ints l).length c6] W (New W (bs F) F.length) from by
            rw [HFF.out]
            exact refDc_any A6 _ c6 (ints l) W (r6.next h) hII.out (by omega)))
          have hPl : (headB l ++ [3]).length ≤ 8194 := by rw [HH.out]; simp
          have HRN : Hid (Reads ((wr.alloc (.cells #[.int .u8 0] 5)).alloc (.cells #[.int .u8 3] 5)) (wr.heap.size + 1 + 1) 1 (some ⟨wr.heap.size + 1, 0, none⟩) 1 [.int .u8 3]) := Lib.hid (by
            have := Reads.new (wr.alloc (.cells #[.int .u8 0] 5)) (.int .u8 3) 5
            simpa using this)
          go_wp2_with (first
            | (at_builtin
               refine wpList_append_any _ rfl (.tmp 69) (.tmp 72) _ rfl wr.heap.size 5 i0 _ 1 1 Tryz.underlying25 hi0 hz0 hz1 hz2 rfl (by omega) (.slice (some ⟨wr.heap.size, 0, none⟩) 1 1) 1 (bs [0]) rfl
                 (HO0.out.alloc _) (wr.heap.size + 1 + 1) (some ⟨wr.heap.size + 1, 0, none⟩) 1 1 [.int .u8 3] rfl HRN.out (by intro u hu; simp at hu; rw [hu]; rfl) (by unfold maxLen; omega) (by omega) (by simp <;> omega) ?_
               intro v3 w3 hown3 hg3 hat3
               have hX : w3.ownsRow wr.heap.size 5 1 v3 (headB l ++ [3]).length (bs (headB l ++ [3])) := by rw [HH.out]; exact hown3
               have hbX : Below wr.heap.size wr w3 := (((Below.refl _ _).alloc (Nat.le_refl _) _).alloc (by simp <;> omega) _).grown hg3 (by simp <;> omega) (fun q hq => by simp [Value.ownBlock] at hq; omega))
            | (go_at_call 66; refine (HC.out _ hbX).mono ?_; intro e w4 hN4; obtain ⟨A9, c9, rfl, hc9, r9, hb4⟩ := hN4.opened)
            | (at_builtin
               refine wpList_append_any _ rfl (.tmp 95) (.tmp 97) _ rfl wr.heap.size 5 i0 _ 1 1 Tryz.underlying25 hi0 hz0 hz1 hz2 rfl (by omega) v3 (headB l ++ [3]).length (bs (headB l ++ [3])) rfl
                 (own_below hX hb4) w4.heap.size A9 F.length c9 (bs F) rfl r9 (bs_one _) (by unfold maxLen; omega) (by omega) (by have := hbX.size; have := hb4.size; omega) ?_
               intro v5 w5 hown5 hg5 hat5))
          go_ret
          refine ⟨v5, rfl, ?_, (hb.trans ((hbX.trans (hb4.mono hbX.size)).mono hsz)).grown hg5 (by have := hbX.size; have := hb4.size; omega) (fun q hq => by have := ((own_below hX hb4).lt q hq).1; omega)⟩
          rw [show lyB l 3 = headB l ++ [3] ++ F from by rw [HFF.out]; rfl, bs_append, List.length_append]
          exact own_base hown5 hsz
        · have HC := Lib.hid (fun (W : World) (h : Below wr.heap.size wr W) => (show Calls Tryz.prog 67 #[.slice A6 (ints l).length c6] W (New W (bs F) F.length) from by
            rw [HFF.out]
            exact refFo_any A6 _ c6 (ints l) W (r6.next h) hII.out (by omega)))
          have hPl : (headB l ++ [4]).length ≤ 8194 := by rw [HH.out]; simp
          have HRN : Hid (Reads ((wr.alloc (.cells #[.int .u8 0] 5)).alloc (.cells #[.int .u8 4] 5)) (wr.heap.size + 1 + 1) 1 (some ⟨wr.heap.size + 1, 0, none⟩) 1 [.int .u8 4]) := Lib.hid (by
            have := Reads.new (wr.alloc (.cells #[.int .u8 0] 5)) (.int .u8 4) 5
            simpa using this)
          go_wp2_with (first
            | (at_builtin
               refine wpList_append_any _ rfl (.tmp 69) (.tmp 72) _ rfl wr.heap.size 5 i0 _ 1 1 Tryz.underlying25 hi0 hz0 hz1 hz2 rfl (by omega) (.slice (some ⟨wr.heap.size, 0, none⟩) 1 1) 1 (bs [0]) rfl
                 (HO0.out.alloc _) (wr.heap.size + 1 + 1) (some ⟨wr.heap.size + 1, 0, none⟩) 1 1 [.int .u8 4] rfl HRN.out (by intro u hu; simp at hu; rw [hu]; rfl) (by unfold maxLen; omega) (by omega) (by simp <;> omega) ?_
               intro v3 w3 hown3 hg3 hat3
               have hX : w3.ownsRow wr.heap.size 5 1 v3 (headB l ++ [4]).length (bs (headB l ++ [4])) := by rw [HH.out]; exact hown3
               have hbX : Below wr.heap.size wr w3 := (((Below.refl _ _).alloc (Nat.le_refl _) _).alloc (by simp <;> omega) _).grown hg3 (by simp <;> omega) (fun q hq => by simp [Value.ownBlock] at hq; omega))
            | (go_at_call 67; refine (HC.out _ hbX).mono ?_; intro e w4 hN4; obtain ⟨A9, c9, rfl, hc9, r9, hb4⟩ := hN4.opened)
            | (at_builtin
               refine wpList_append_any _ rfl (.tmp 101) (.tmp 103) _ rfl wr.heap.size 5 i0 _ 1 1 Tryz.underlying25 hi0 hz0 hz1 hz2 rfl (by omega) v3 (headB l ++ [4]).length (bs (headB l ++ [4])) rfl
                 (own_below hX hb4) w4.heap.size A9 F.length c9 (bs F) rfl r9 (bs_one _) (by unfold maxLen; omega) (by omega) (by have := hbX.size; have := hb4.size; omega) ?_
               intro v5 w5 hown5 hg5 hat5))
          go_ret
          refine ⟨v5, rfl, ?_, (hb.trans ((hbX.trans (hb4.mono hbX.size)).mono hsz)).grown hg5 (by have := hbX.size; have := hb4.size; omega) (fun q hq => by have := ((own_below hX hb4).lt q hq).1; omega)⟩
          rw [show lyB l 4 = headB l ++ [4] ++ F from by rw [HFF.out]; rfl, bs_append, List.length_append]
          exact own_base hown5 hsz
        · have HC := Lib.hid (fun (W : World) (h : Below wr.heap.size wr W) => (show Calls Tryz.prog 68 #[.slice A7 (wrds l).length c7] W (New W (bs F) F.length) from by
            rw [HFF.out]
            exact refTx_any A7 _ c7 (wrds l) W (r7.next h) (by omega) hWS.out))
          have hPl : (headB l ++ [5]).length ≤ 8194 := by rw [HH.out]; simp
          have HRN : Hid (Reads ((wr.alloc (.cells #[.int .u8 0] 5)).alloc (.cells #[.int .u8 5] 5)) (wr.heap.size + 1 + 1) 1 (some ⟨wr.heap.size + 1, 0, none⟩) 1 [.int .u8 5]) := Lib.hid (by
            have := Reads.new (wr.alloc (.cells #[.int .u8 0] 5)) (.int .u8 5) 5
            simpa using this)
          go_wp2_with (first
            | (at_builtin
               refine wpList_append_any _ rfl (.tmp 69) (.tmp 72) _ rfl wr.heap.size 5 i0 _ 1 1 Tryz.underlying25 hi0 hz0 hz1 hz2 rfl (by omega) (.slice (some ⟨wr.heap.size, 0, none⟩) 1 1) 1 (bs [0]) rfl
                 (HO0.out.alloc _) (wr.heap.size + 1 + 1) (some ⟨wr.heap.size + 1, 0, none⟩) 1 1 [.int .u8 5] rfl HRN.out (by intro u hu; simp at hu; rw [hu]; rfl) (by unfold maxLen; omega) (by omega) (by simp <;> omega) ?_
               intro v3 w3 hown3 hg3 hat3
               have hX : w3.ownsRow wr.heap.size 5 1 v3 (headB l ++ [5]).length (bs (headB l ++ [5])) := by rw [HH.out]; exact hown3
               have hbX : Below wr.heap.size wr w3 := (((Below.refl _ _).alloc (Nat.le_refl _) _).alloc (by simp <;> omega) _).grown hg3 (by simp <;> omega) (fun q hq => by simp [Value.ownBlock] at hq; omega))
            | (go_at_call 68; refine (HC.out _ hbX).mono ?_; intro e w4 hN4; obtain ⟨A9, c9, rfl, hc9, r9, hb4⟩ := hN4.opened)
            | (at_builtin
               refine wpList_append_any _ rfl (.tmp 105) (.tmp 107) _ rfl wr.heap.size 5 i0 _ 1 1 Tryz.underlying25 hi0 hz0 hz1 hz2 rfl (by omega) v3 (headB l ++ [5]).length (bs (headB l ++ [5])) rfl
                 (own_below hX hb4) w4.heap.size A9 F.length c9 (bs F) rfl r9 (bs_one _) (by unfold maxLen; omega) (by omega) (by have := hbX.size; have := hb4.size; omega) ?_
               intro v5 w5 hown5 hg5 hat5))
          go_ret
          refine ⟨v5, rfl, ?_, (hb.trans ((hbX.trans (hb4.mono hbX.size)).mono hsz)).grown hg5 (by have := hbX.size; have := hb4.size; omega) (fun q hq => by have := ((own_below hX hb4).lt q hq).1; omega)⟩
          rw [show lyB l 5 = headB l ++ [5] ++ F from by rw [HFF.out]; rfl, bs_append, List.length_append]
          exact own_base hown5 hsz
      | true =>
        have HH := Lib.hid (headB_yes HE.out hg)
        obtain ⟨hok, hbits⟩ := setB_ok (non l) k
        have hlS := setB_length (non l) k
        have HBY := Lib.hid (fun (W : World) (h : Below wr.heap.size wr W) => refBytes_any A5 k c5 (setB (non l) k) W (by rw [bl_congr hbits]; exact r5.next h) hn hok)
        obtain ⟨S, hS⟩ : ∃ S, S = setB (non l) k := ⟨_, rfl⟩
        rw [← hS] at HH HBY hlS
        have hSl : S.length ≤ 8192 := by rw [hlS]; unfold siz; omega
        have HO1 : Hid (((wr.alloc (.cells #[.int .u8 0] 5)).alloc (.cells #[.int .u8 1] 5)).ownsRow wr.heap.size 5 1 (.slice (some ⟨wr.heap.size + 1, 0, none⟩) 1 1) 1 (bs [1])) := Lib.hid (by
          have := own_base (own_new (wr.alloc (.cells #[.int .u8 0] 5)) #[.int .u8 1] 1 5 (bs [1]) (by unfold maxLen; omega) rfl rfl) (base' := wr.heap.size) (by simp)
          simpa using this)
        have hb0 : Below wr.heap.size wr ((wr.alloc (.cells #[.int .u8 0] 5)).alloc (.cells #[.int .u8 1] 5)) := ((Below.refl _ _).alloc (Nat.le_refl _) _).alloc (by simp <;> omega) _
        clear hg hok hbits hlS hS
        rcases HW.out with rfl | rfl | rfl | rfl | rfl | rfl
        · have HC := Lib.hid (fun (W : World) (h : Below wr.heap.size wr W) => (show Calls Tryz.prog 63 #[.slice A6 (ints l).length c6] W (New W (bs F) F.length) from by
            rw [HFF.out]
            exact refPlPut_any A6 _ c6 (ints l) W (r6.next h) hII.out (by omega)))
          have hPl : (headB l ++ [0]).length ≤ 8194 := by rw [HH.out]; simp <;> omega
          have HX1 : Hid ((headB l ++ [0]).length = 1 + S.length + 1 ∧ bs (headB l ++ [0]) = bs [1] ++ bs S ++ [.int .u8 0]) := Lib.hid (by rw [HH.out]; exact ⟨by simp <;> omega, by simp [bs]⟩)
          go_wp2_with (first
            | (go_at_call 62; refine (HBY.out _ hb0).mono ?_; intro e w2 hN2; obtain ⟨A8, c8, rfl, hc8, r8, hb2⟩ := hN2.opened)
            | (at_builtin
               refine wpList_append_any _ rfl (.tmp 65) (.tmp 67) _ rfl wr.heap.size 5 i0 _ 1 1 Tryz.underlying25 hi0 hz0 hz1 hz2 rfl (by omega) (.slice (some ⟨wr.heap.size + 1, 0, none⟩) 1 1) 1 (bs [1]) rfl
                 (own_below HO1.out hb2) w2.heap.size A8 S.length c8 (bs S) rfl r8 (bs_one _) (by unfold maxLen; omega) (by omega) (by have := hb0.size; have := hb2.size; omega) ?_
               intro v6 w6 hown6 hg6 hat6
               have hb6 : Below wr.heap.size wr w6 := (hb0.trans (hb2.mono hb0.size)).grown hg6 (by have := hb0.size; have := hb2.size; omega) (fun q hq => by simp [Value.ownBlock] at hq; omega)
               have hsz6 := hb6.size)
            | (at_builtin
               refine wpList_append_any _ rfl (.tmp 69) (.tmp 72) _ rfl wr.heap.size 5 i0 _ 1 1 Tryz.underlying25 hi0 hz0 hz1 hz2 rfl (by omega) v6 (1 + S.length) (bs [1] ++ bs S) rfl
                 (hown6.alloc _) (w6.heap.size + 1) (some ⟨w6.heap.size, 0, none⟩) 1 1 [.int .u8 0] rfl (Reads.new w6 _ _) (by intro u hu; simp at hu; rw [hu]; rfl) (by unfold maxLen; omega) (by omega) (by simp <;> omega) ?_
               intro v3 w3 hown3 hg3 hat3
               have hX : w3.ownsRow wr.heap.size 5 1 v3 (headB l ++ [0]).length (bs (headB l ++ [0])) := by rw [HX1.out.1, HX1.out.2]; exact hown3
               have hbX : Below wr.heap.size wr w3 := below_app hb6 hown6 hsz6 hg3)
            | (go_at_call 63; refine (HC.out _ hbX).mono ?_; intro e w4 hN4; obtain ⟨A9, c9, rfl, hc9, r9, hb4⟩ := hN4.opened)
            | (at_builtin
               refine wpList_append_any _ rfl (.tmp 77) (.tmp 79) _ rfl wr.heap.size 5 i0 _ 1 1 Tryz.underlying25 hi0 hz0 hz1 hz2 rfl (by omega) v3 (headB l ++ [0]).length (bs (headB l ++ [0])) rfl
                 (own_below hX hb4) w4.heap.size A9 F.length c9 (bs F) rfl r9 (bs_one _) (by unfold maxLen; omega) (by omega) (by have := hbX.size; have := hb4.size; omega) ?_
               intro v5 w5 hown5 hg5 hat5))
          go_ret
          refine ⟨v5, rfl, ?_, (hb.trans ((hbX.trans (hb4.mono hbX.size)).mono hsz)).grown hg5 (by have := hbX.size; have := hb4.size; omega) (fun q hq => by have := ((own_below hX hb4).lt q hq).1; omega)⟩
          rw [show lyB l 0 = headB l ++ [0] ++ F from by rw [HFF.out]; rfl, bs_append, List.length_append]
          exact own_base hown5 hsz
        · have HC := Lib.hid (fun (W : World) (h : Below wr.heap.size wr W) => (show Calls Tryz.prog 64 #[.slice A6 (ints l).length c6] W (New W (bs F) F.length) from by
            rw [HFF.out]
            exact refRnPut_any A6 _ c6 (ints l) W (r6.next h) hII.out (by omega)))
          have hPl : (headB l ++ [1]).length ≤ 8194 := by rw [HH.out]; simp <;> omega
          have HX1 : Hid ((headB l ++ [1]).length = 1 + S.length + 1 ∧ bs (headB l ++ [1]) = bs [1] ++ bs S ++ [.int .u8 1]) := Lib.hid (by rw [HH.out]; exact ⟨by simp <;> omega, by simp [bs]⟩)
          go_wp2_with (first
            | (go_at_call 62; refine (HBY.out _ hb0).mono ?_; intro e w2 hN2; obtain ⟨A8, c8, rfl, hc8, r8, hb2⟩ := hN2.opened)
            | (at_builtin
               refine wpList_append_any _ rfl (.tmp 65) (.tmp 67) _ rfl wr.heap.size 5 i0 _ 1 1 Tryz.underlying25 hi0 hz0 hz1 hz2 rfl (by omega) (.slice (some ⟨wr.heap.size + 1, 0, none⟩) 1 1) 1 (bs [1]) rfl
                 (own_below HO1.out hb2) w2.heap.size A8 S.length c8 (bs S) rfl r8 (bs_one _) (by unfold maxLen; omega) (by omega) (by have := hb0.size; have := hb2.size; omega) ?_
               intro v6 w6 hown6 hg6 hat6
               have hb6 : Below wr.heap.size wr w6 := (hb0.trans (hb2.mono hb0.size)).grown hg6 (by have := hb0.size; have := hb2.size; omega) (fun q hq => by simp [Value.ownBlock] at hq; omega)
               have hsz6 := hb6.size)
            | (at_builtin
               refine wpList_append_any _ rfl (.tmp 69) (.tmp 72) _ rfl wr.heap.size 5 i0 _ 1 1 Tryz.underlying25 hi0 hz0 hz1 hz2 rfl (by omega) v6 (1 + S.length) (bs [1] ++ bs S) rfl
                 (hown6.alloc _) (w6.heap.size + 1) (some ⟨w6.heap.size, 0, none⟩) 1 1 [.int .u8 1] rfl (Reads.new w6 _ _) (by intro u hu; simp at hu; rw [hu]; rfl) (by unfold maxLen; omega) (by omega) (by simp <;> omega) ?_
               intro v3 w3 hown3 hg3 hat3
               have hX : w3.ownsRow wr.heap.size 5 1 v3 (headB l ++ [1]).length (bs (headB l ++ [1])) := by rw [HX1.out.1, HX1.out.2]; exact hown3
               have hbX : Below wr.heap.size wr w3 := below_app hb6 hown6 hsz6 hg3)
            | (go_at_call 64; refine (HC.out _ hbX).mono ?_; intro e w4 hN4; obtain ⟨A9, c9, rfl, hc9, r9, hb4⟩ := hN4.opened)
            | (at_builtin
               refine wpList_append_any _ rfl (.tmp 83) (.tmp 85) _ rfl wr.heap.size 5 i0 _ 1 1 Tryz.underlying25 hi0 hz0 hz1 hz2 rfl (by omega) v3 (headB l ++ [1]).length (bs (headB l ++ [1])) rfl
                 (own_below hX hb4) w4.heap.size A9 F.length c9 (bs F) rfl r9 (bs_one _) (by unfold maxLen; omega) (by omega) (by have := hbX.size; have := hb4.size; omega) ?_
               intro v5 w5 hown5 hg5 hat5))
          go_ret
          refine ⟨v5, rfl, ?_, (hb.trans ((hbX.trans (hb4.mono hbX.size)).mono hsz)).grown hg5 (by have := hbX.size; have := hb4.size; omega) (fun q hq => by have := ((own_below hX hb4).lt q hq).1; omega)⟩
          rw [show lyB l 1 = headB l ++ [1] ++ F from by rw [HFF.out]; rfl, bs_append, List.length_append]
          exact own_base hown5 hsz
        · have HC := Lib.hid (fun (W : World) (h : Below wr.heap.size wr W) => (show Calls Tryz.prog 65 #[.slice A6 (ints l).length c6] W (New W (bs F) F.length) from by
            rw [HFF.out]
            exact refDl_any A6 _ c6 (ints l) W (r6.next h) hII.out hc6 (by omega)))
          have hPl : (headB l ++ [2]).length ≤ 8194 := by rw [HH.out]; simp <;> omega
          have HX1 : Hid ((headB l ++ [2]).length = 1 + S.length + 1 ∧ bs (headB l ++ [2]) = bs [1] ++ bs S ++ [.int .u8 2]) := Lib.hid (by rw [HH.out]; exact ⟨by simp <;> omega, by simp [bs]⟩)
          go_wp2_with (first
            | (go_at_call 62; refine (HBY.out _ hb0).mono ?_; intro e w2 hN2; obtain ⟨A8, c8, rfl, hc8, r8, hb2⟩ := hN2.opened)
            | (at_builtin
               refine wpList_append_any _ rfl (.tmp 65) (.tmp 67) _ rfl wr.heap.size 5 i0 _ 1 1 Tryz.underlying25 hi0 hz0 hz1 hz2 rfl (by omega) (.slice (some ⟨wr.heap.size + 1, 0, none⟩) 1 1) 1 (bs [1]) rfl
                 (own_below HO1.out hb2) w2.heap.size A8 S.length c8 (bs S) rfl r8 (bs_one _) (by unfold maxLen; omega) (by omega) (by have := hb0.size; have := hb2.size; omega) ?_
               intro v6 w6 hown6 hg6 hat6
               have hb6 : Below wr.heap.size wr w6 := (hb0.trans (hb2.mono hb0.size)).grown hg6 (by have := hb0.size; have := hb2.size; omega) (fun q hq => by simp [Value.ownBlock] at hq; omega)
               have hsz6 := hb6.size)
            | (at_builtin
               refine wpList_append_any _ rfl (.tmp 69) (.tmp 72) _ rfl wr.heap.size 5 i0 _ 1 1 Tryz.underlying25 hi0 hz0 hz1 hz2 rfl (by omega) v6 (1 + S.length) (bs [1] ++ bs S) rfl
                 (hown6.alloc _) (w6.heap.size + 1) (some ⟨w6.heap.size, 0, none⟩) 1 1 [.int .u8 2] rfl (Reads.new w6 _ _) (by intro u hu; simp at hu; rw [hu]; rfl) (by unfold maxLen; omega) (by omega) (by simp <;> omega) ?_
               intro v3 w3 hown3 hg3 hat3
               have hX : w3.ownsRow wr.heap.size 5 1 v3 (headB l ++ [2]).length (bs (headB l ++ [2])) := by rw [HX1.out.1, HX1.out.2]; exact hown3
               have hbX : Below wr.heap.size wr w3 := below_app hb6 hown6 hsz6 hg3)
            | (go_at_call 65; refine (HC.out _ hbX).mono ?_; intro e w4 hN4; obtain ⟨A9, c9, rfl, hc9, r9, hb4⟩ := hN4.opened)
            | (at_builtin
               refine wpList_append_any _ rfl (.tmp 89) (.tmp 91) _ rfl wr.heap.size 5 i0 _ 1 1 Tryz.underlying25 hi0 hz0 hz1 hz2 rfl (by omega) v3 (headB l ++ [2]).length (bs (headB l ++ [2])) rfl
                 (own_below hX hb4) w4.heap.size A9 F.length c9 (bs F) rfl r9 (bs_one _) (by unfold maxLen; omega) (by omega) (by have := hbX.size; have := hb4.size; omega) ?_
               intro v5 w5 hown5 hg5 hat5))
          go_ret
          refine ⟨v5, rfl, ?_, (hb.trans ((hbX.trans (hb4.mono hbX.size)).mono hsz)).grown hg5 (by have := hbX.size; have := hb4.size; omega) (fun q hq => by have := ((own_below hX hb4).lt q hq).1; omega)⟩
          rw [show lyB l 2 = headB l ++ [2] ++ F from by rw [HFF.out]; rfl, bs_append, List.length_append]
          exact own_base hown5 hsz
        · have HC := Lib.hid (fun (W : World) (h : Below wr.heap.size wr W) => (show Calls Tryz.prog 66 #[.slice A6 (ints l).length c6] W (New W (bs F) F.length) from by
            rw [HFF.out]
            exact refDc_any A6 _ c6 (ints l) W (r6.next h) hII.out (by omega)))
          have hPl : (headB l ++ [3]).length ≤ 8194 := by rw [HH.out]; simp <;> omega
          have HX1 : Hid ((headB l ++ [3]).length = 1 + S.length + 1 ∧ bs (headB l ++ [3]) = bs [1] ++ bs S ++ [.int .u8 3]) := Lib.hid (by rw [HH.out]; exact ⟨by simp <;> omega, by simp [bs]⟩)
          go_wp2_with (first
            | (go_at_call 62; refine (HBY.out _ hb0).mono ?_; intro e w2 hN2; obtain ⟨A8, c8, rfl, hc8, r8, hb2⟩ := hN2.opened)
            | (at_builtin
               refine wpList_append_any _ rfl (.tmp 65) (.tmp 67) _ rfl wr.heap.size 5 i0 _ 1 1 Tryz.underlying25 hi0 hz0 hz1 hz2 rfl (by omega) (.slice (some ⟨wr.heap.size + 1, 0, none⟩) 1 1) 1 (bs [1]) rfl
                 (own_below HO1.out hb2) w2.heap.size A8 S.length c8 (bs S) rfl r8 (bs_one _) (by unfold maxLen; omega) (by omega) (by have := hb0.size; have := hb2.size; omega) ?_
               intro v6 w6 hown6 hg6 hat6
               have hb6 : Below wr.heap.size wr w6 := (hb0.trans (hb2.mono hb0.size)).grown hg6 (by have := hb0.size; have := hb2.size; omega) (fun q hq => by simp [Value.ownBlock] at hq; omega)
               have hsz6 := hb6.size)
            | (at_builtin
               refine wpList_append_any _ rfl (.tmp 69) (.tmp 72) _ rfl wr.heap.size 5 i0 _ 1 1 Tryz.underlying25 hi0 hz0 hz1 hz2 rfl (by omega) v6 (1 + S.length) (bs [1] ++ bs S) rfl
                 (hown6.alloc _) (w6.heap.size + 1) (some ⟨w6.heap.size, 0, none⟩) 1 1 [.int .u8 3] rfl (Reads.new w6 _ _) (by intro u hu; simp at hu; rw [hu]; rfl) (by unfold maxLen; omega) (by omega) (by simp <;> omega) ?_
               intro v3 w3 hown3 hg3 hat3
               have hX : w3.ownsRow wr.heap.size 5 1 v3 (headB l ++ [3]).length (bs (headB l ++ [3])) := by rw [HX1.out.1, HX1.out.2]; exact hown3
               have hbX : Below wr.heap.size wr w3 := below_app hb6 hown6 hsz6 hg3)
            | (go_at_call 66; refine (HC.out _ hbX).mono ?_; intro e w4 hN4; obtain ⟨A9, c9, rfl, hc9, r9, hb4⟩ := hN4.opened)
            | (at_builtin
               refine wpList_append_any _ rfl (.tmp 95) (.tmp 97) _ rfl wr.heap.size 5 i0 _ 1 1 Tryz.underlying25 hi0 hz0 hz1 hz2 rfl (by omega) v3 (headB l ++ [3]).length (bs (headB l ++ [3])) rfl
                 (own_below hX hb4) w4.heap.size A9 F.length c9 (bs F) rfl r9 (bs_one _) (by unfold maxLen; omega) (by omega) (by have := hbX.size; have := hb4.size; omega) ?_
               intro v5 w5 hown5 hg5 hat5))
          go_ret
          refine ⟨v5, rfl, ?_, (hb.trans ((hbX.trans (hb4.mono hbX.size)).mono hsz)).grown hg5 (by have := hbX.size; have := hb4.size; omega) (fun q hq => by have := ((own_below hX hb4).lt q hq).1; omega)⟩
          rw [show lyB l 3 = headB l ++ [3] ++ F from by rw [HFF.out]; rfl, bs_append, List.length_append]
          exact own_base hown5 hsz
        · have HC := Lib.hid (fun (W : World) (h : Below wr.heap.size wr W) => (show Calls Tryz.prog 67 #[.slice A6 (ints l).length c6] W (New W (bs F) F.length) from by
            rw [HFF.out]
            exact refFo_any A6 _ c6 (ints l) W (r6.next h) hII.out (by omega)))
          have hPl : (headB l ++ [4]).length ≤ 8194 := by rw [HH.out]; simp <;> omega
          have HX1 : Hid ((headB l ++ [4]).length = 1 + S.length + 1 ∧ bs (headB l ++ [4]) = bs [1] ++ bs S ++ [.int .u8 4]) := Lib.hid (by rw [HH.out]; exact ⟨by simp <;> omega, by simp [bs]⟩)
          go_wp2_with (first
            | (go_at_call 62; refine (HBY.out _ hb0).mono ?_; intro e w2 hN2; obtain ⟨A8, c8, rfl, hc8, r8, hb2⟩ := hN2.opened)
            | (at_builtin
               refine wpList_append_any _ rfl (.tmp 65) (.tmp 67) _ rfl wr.heap.size 5 i0 _ 1 1 Tryz.underlying25 hi0 hz0 hz1 hz2 rfl (by omega) (.slice (some ⟨wr.heap.size + 1, 0, none⟩) 1 1) 1 (bs [1]) rfl
                 (own_below HO1.out hb2) w2.heap.size A8 S.length c8 (bs S) rfl r8 (bs_one _) (by unfold maxLen; omega) (by omega) (by have := hb0.size; have := hb2.size; omega) ?_
               intro v6 w6 hown6 hg6 hat6
               have hb6 : Below wr.heap.size wr w6 := (hb0.trans (hb2.mono hb0.size)).grown hg6 (by have := hb0.size; have := hb2.size; omega) (fun q hq => by simp [Value.ownBlock] at hq; omega)
               have hsz6 := hb6.size)
            | (at_builtin
               refine wpList_append_any _ rfl (.tmp 69) (.tmp 72) _ rfl wr.heap.size 5 i0 _ 1 1 Tryz.underlying25 hi0 hz0 hz1 hz2 rfl (by omega) v6 (1 + S.length) (bs [1] ++ bs S) rfl
                 (hown6.alloc _) (w6.heap.size + 1) (some ⟨w6.heap.size, 0, none⟩) 1 1 [.int .u8 4] rfl (Reads.new w6 _ _) (by intro u hu; simp at hu; rw [hu]; rfl) (by unfold maxLen; omega) (by omega) (by simp <;> omega) ?_
               intro v3 w3 hown3 hg3 hat3
               have hX : w3.ownsRow wr.heap.size 5 1 v3 (headB l ++ [4]).length (bs (headB l ++ [4])) := by rw [HX1.out.1, HX1.out.2]; exact hown3
               have hbX : Below wr.heap.size wr w3 := below_app hb6 hown6 hsz6 hg3)
            | (go_at_call 67; refine (HC.out _ hbX).mono ?_; intro e w4 hN4; obtain ⟨A9, c9, rfl, hc9, r9, hb4⟩ := hN4.opened)
            | (at_builtin
               refine wpList_append_any _ rfl (.tmp 101) (.tmp 103) _ rfl wr.heap.size 5 i0 _ 1 1 Tryz.underlying25 hi0 hz0 hz1 hz2 rfl (by omega) v3 (headB l ++ [4]).length (bs (headB l ++ [4])) rfl
                 (own_below hX hb4) w4.heap.size A9 F.length c9 (bs F) rfl r9 (bs_one _) (by unfold maxLen; omega) (by omega) (by have := hbX.size; have := hb4.size; omega) ?_
               intro v5 w5 hown5 hg5 hat5))
          go_ret
          refine ⟨v5, rfl, ?_, (hb.trans ((hbX.trans (hb4.mono hbX.size)).mono hsz)).grown hg5 (by have := hbX.size; have := hb4.size; omega) (fun q hq => by have := ((own_below hX hb4).lt q hq).1; omega)⟩
          rw [show lyB l 4 = headB l ++ [4] ++ F from by rw [HFF.out]; rfl, bs_append, List.length_append]
          exact own_base hown5 hsz
        · have HC := Lib.hid (fun (W : World) (h : Below wr.heap.size wr W) => (show Calls Tryz.prog 68 #[.slice A7 (wrds l).length c7] W (New W (bs F) F.length) from by
            rw [HFF.out]
            exact refTx_any A7 _ c7 (wrds l) W (r7.next h) (by omega) hWS.out))
          have hPl : (headB l ++ [5]).length ≤ 8194 := by rw [HH.out]; simp <;> omega
          have HX1 : Hid ((headB l ++ [5]).length = 1 + S.length + 1 ∧ bs (headB l ++ [5]) = bs [1] ++ bs S ++ [.int .u8 5]) := Lib.hid (by rw [HH.out]; exact ⟨by simp <;> omega, by simp [bs]⟩)
          go_wp2_with (first
            | (go_at_call 62; refine (HBY.out _ hb0).mono ?_; intro e w2 hN2; obtain ⟨A8, c8, rfl, hc8, r8, hb2⟩ := hN2.opened)
            | (at_builtin
               refine wpList_append_any _ rfl (.tmp 65) (.tmp 67) _ rfl wr.heap.size 5 i0 _ 1 1 Tryz.underlying25 hi0 hz0 hz1 hz2 rfl (by omega) (.slice (some ⟨wr.heap.size + 1, 0, none⟩) 1 1) 1 (bs [1]) rfl
                 (own_below HO1.out hb2) w2.heap.size A8 S.length c8 (bs S) rfl r8 (bs_one _) (by unfold maxLen; omega) (by omega) (by have := hb0.size; have := hb2.size; omega) ?_
               intro v6 w6 hown6 hg6 hat6
               have hb6 : Below wr.heap.size wr w6 := (hb0.trans (hb2.mono hb0.size)).grown hg6 (by have := hb0.size; have := hb2.size; omega) (fun q hq => by simp [Value.ownBlock] at hq; omega)
               have hsz6 := hb6.size)
            | (at_builtin
               refine wpList_append_any _ rfl (.tmp 69) (.tmp 72) _ rfl wr.heap.size 5 i0 _ 1 1 Tryz.underlying25 hi0 hz0 hz1 hz2 rfl (by omega) v6 (1 + S.length) (bs [1] ++ bs S) rfl
                 (hown6.alloc _) (w6.heap.size + 1) (some ⟨w6.heap.size, 0, none⟩) 1 1 [.int .u8 5] rfl (Reads.new w6 _ _) (by intro u hu; simp at hu; rw [hu]; rfl) (by unfold maxLen; omega) (by omega) (by simp <;> omega) ?_
               intro v3 w3 hown3 hg3 hat3
               have hX : w3.ownsRow wr.heap.size 5 1 v3 (headB l ++ [5]).length (bs (headB l ++ [5])) := by rw [HX1.out.1, HX1.out.2]; exact hown3
               have hbX : Below wr.heap.size wr w3 := below_app hb6 hown6 hsz6 hg3)
            | (go_at_call 68; refine (HC.out _ hbX).mono ?_; intro e w4 hN4; obtain ⟨A9, c9, rfl, hc9, r9, hb4⟩ := hN4.opened)
            | (at_builtin
               refine wpList_append_any _ rfl (.tmp 105) (.tmp 107) _ rfl wr.heap.size 5 i0 _ 1 1 Tryz.underlying25 hi0 hz0 hz1 hz2 rfl (by omega) v3 (headB l ++ [5]).length (bs (headB l ++ [5])) rfl
                 (own_below hX hb4) w4.heap.size A9 F.length c9 (bs F) rfl r9 (bs_one _) (by unfold maxLen; omega) (by omega) (by have := hbX.size; have := hb4.size; omega) ?_
               intro v5 w5 hown5 hg5 hat5))
          go_ret
          refine ⟨v5, rfl, ?_, (hb.trans ((hbX.trans (hb4.mono hbX.size)).mono hsz)).grown hg5 (by have := hbX.size; have := hb4.size; omega) (fun q hq => by have := ((own_below hX hb4).lt q hq).1; omega)⟩
          rw [show lyB l 5 = headB l ++ [5] ++ F from by rw [HFF.out]; rfl, bs_append, List.length_append]
          exact own_base hown5 hsz
end Go.Proofs.YthlfplljbbnaoaaGreatDoor
