/- Contract of package texts' putList: the head of the form in new memory. -/
import Derived.Test.YtppeagjklndidaaJ16
import Derived.Test.YtppeagjklndidaaBlob
import Derived.Test.YtppeagjklndidaaJ14
namespace Go.Proofs.Ytppeagjklndidaa
open Go.RowKit
set_option linter.unusedVariables false
set_option linter.unusedSimpArgs false
set_option maxRecDepth 100000

theorem blobT_is (s : Tx) : blob (nb s) = blbT s := blob_nb s
theorem front_le (L : List Tx) (N k : Nat) (hk : k ≤ N) (hN : N ≤ 65536) (hq : ∀ s ∈ L, s.length ≤ 65536) : (vb N ++ blbs (L.take k)).length ≤ 4295622666 := by
  have h1 := (vb_length N).2
  have h2 := blbs_length (L.take k) 65536 (fun s hs => hq s (List.mem_of_mem_take hs))
  have h3 : (L.take k).length ≤ 65536 := by have := List.length_take_le k L; omega
  have h4 : (65536 + 10) * (L.take k).length ≤ (65536 + 10) * 65536 := Nat.mul_le_mul (Nat.le_refl _) h3
  rw [List.length_append]; omega
set_option maxHeartbeats 600000 in
theorem putLT_any (A : Option Addr) (N c : Nat) (L : List Tx) (w : World) (hr : Reads w w.heap.size 1 A N (ts L)) (hn : N ≤ 65536) (hq : ∀ s ∈ L, s.length ≤ 65536) :
    Calls Try.prog 36 #[.slice A N c] w (New w (bs (hdT L)) (hdT L).length) := by
  obtain ⟨i0, hi0, hz0, hz1, hz2⟩ := info_parts info_u8
  have e1 : L.length = N := by have := hr.1; rw [ts_length] at this; omega
  have HHD : Hid (hdT L = vb N ++ blbs L) := Lib.hid (by unfold hdT; rw [e1])
  have E1 := Lib.hid e1
  have HQ := Lib.hid hq
  have HFL := Lib.hid (fun k (hk : k ≤ N) => front_le L N k hk hn hq)
  clear e1 hq
  go_enter Try.func36, Try.ntmps36
  go_wp2_with fail
  refine (putVar_any none 0 0 N [] w (by omega) Reads.none_ (by simp) (by omega)).mono ?_
  rintro e w1 ⟨v1, rfl, hown1, hb1⟩
  rw [List.nil_append, Nat.zero_add] at hown1
  go_wp2_with fail
  go_loopw [3, 12] (fun s3 s12 wr => ∃ k : Nat, k ≤ N ∧ s12 = .int .i64 (k : Int) ∧ wr.ownsRow w.heap.size 5 1 s3 (vb N ++ blbs (L.take k)).length (bs (vb N ++ blbs (L.take k))) ∧ Below w.heap.size w wr) (fun _ i _ => N - (intOf i).toNat)
  case atStart => exact ⟨0, Nat.zero_le _, rfl, by simpa [blbs] using hown1, hb1⟩
  case round =>
    clear hown1 hb1
    obtain ⟨k, hk, rfl, hown, hb⟩ := hrel
    by_cases hlt : k < N
    · obtain ⟨ad, u, rfl, _, hu, hc0⟩ := (hr.below hb).at_ hlt
      obtain ⟨z, hz, rfl⟩ := ts_at hu
      have hzl := HQ.out z (List.mem_of_getElem? hz)
      have hwl := HFL.out k hk
      have HST := Lib.hid (blbs_step hz)
      have HBZ := Lib.hid (blobT_is z)
      have hbl : (blbT z).length ≤ 65546 := by have := blbT_length (s := z); omega
      have hcv := conv_is z
      have hbc := conv_below wr z
      have hrc := conv_reads wr z
      clear hu hz
      go_wp2_with fail
      refine (putBlob_any none _ 0 0 z.length _ [] (nb z) _ Reads.none_ (by simp) hrc (by omega)).mono ?_
      intro e2 w2 hN2
      obtain ⟨A2, c2, rfl, _, hr2, hb2⟩ := hN2.opened
      rw [Nat.zero_add, List.nil_append, HBZ.out] at hr2
      rw [HBZ.out]
      simp only [Nat.zero_add]
      have hbw2 : Below wr.heap.size wr w2 := hbc.trans (hb2.mono hbc.size)
      have hown2 := own_below hown hbw2
      have hb02 := hb.trans (hbw2.mono hb.size)
      clear hcv hbc hrc hb2 hN2
      go_wp2_with (at_builtin
                   refine wpList_append_any _ rfl (.tmp 16) (.tmp 19) _ rfl w.heap.size 5 i0 _ 1 1 Try.underlying24 hi0 hz0 hz1 hz2 rfl (by omega) u3 (vb N ++ blbs (L.take k)).length (bs (vb N ++ blbs (L.take k))) rfl
                     hown2 w2.heap.size A2 (blbT z).length c2 (bs (blbT z)) rfl hr2 (bs_one _) (by unfold maxLen; omega) (by omega) hb02.size ?_
                   intro v3 w3 hown3 hg3 hat3)
      go_round
      case rel =>
        refine ⟨k + 1, by omega, by go_num, ?_, hb02.grown hg3 hb02.size (fun j hj => (hown2.lt j hj).1)⟩
        rw [HST.out, ← List.append_assoc, List.length_append, bs_append]
        exact hown3
      case measure => simp [intOf]; omega
    · obtain rfl : k = N := by omega
      have hd := HHD.out
      go_wp2_with fail
      go_ret
      rw [List.take_of_length_le (by rw [E1.out]; exact Nat.le_refl _), ← hd] at hown
      exact ⟨_, rfl, hown, hb⟩
end Go.Proofs.Ytppeagjklndidaa
