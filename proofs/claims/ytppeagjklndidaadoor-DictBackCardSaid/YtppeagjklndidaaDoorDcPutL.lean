/- Contract of package dict's putList: the head of the form in new memory. -/
import Derived.Test.YtppeagjklndidaaDoorDcPlain
import Derived.Test.YtppeagjklndidaaDoorJ17
import Derived.Test.YtppeagjklndidaaDoorJ15
namespace Go.Proofs.YtppeagjklndidaaDoor
open Go.RowKit
set_option linter.unusedVariables false
set_option linter.unusedSimpArgs false
set_option maxRecDepth 100000

set_option maxHeartbeats 600000 in
theorem putL_any (A : Option Addr) (N c : Nat) (L : List Int) (w : World) (hr : Reads w w.heap.size 1 A N (zs L)) (hL : Rise L) (hl : ∀ z ∈ L, In64 z) (hn : N ≤ 65536) :
    Calls Tryd.prog 19 #[.slice A N c] w (New w (bs (hdD L)) (hdD L).length) := by
  obtain ⟨i0, hi0, hz0, hz1, hz2⟩ := info_parts info_u8
  have e1 : L.length = N := by have := hr.1; rw [zs_length] at this; omega
  have E1 := Lib.hid e1
  have hhl := htD_length L
  rw [e1] at hhl
  have HHL := Lib.hid hhl
  have hhd : hdD L = vb N ++ vbs (htD L) := by rw [hdD_eq, e1]
  have HHD := Lib.hid hhd
  have HRI := Lib.hid hL
  clear e1 hhl hhd hL
  go_enter Tryd.func19, Tryd.ntmps19
  go_wp2_with fail
  refine (putVar_any none 0 0 N [] w (by omega) Reads.none_ (by simp) (by omega)).mono ?_
  rintro e w1 ⟨v1, rfl, hown1, hb1⟩
  rw [List.nil_append, Nat.zero_add] at hown1
  go_wp2_with fail
  go_loopw [3, 13] (fun s3 s13 wr => ∃ k : Nat, k ≤ N ∧ s13 = .int .i64 (k : Int) ∧ wr.ownsRow w.heap.size 5 1 s3 (vb N ++ vbs ((htD L).take k)).length (bs (vb N ++ vbs ((htD L).take k))) ∧ Below w.heap.size w wr) (fun _ i _ => N - (intOf i).toNat)
  case atStart => exact ⟨0, Nat.zero_le _, rfl, by simpa [vbs] using hown1, hb1⟩
  case round =>
    clear hown1 hb1
    obtain ⟨k, hk, rfl, hown, hb⟩ := hrel
    by_cases hlt : k < N
    · obtain ⟨ad, u, rfl, _, hu, hc0⟩ := (hr.below hb).at_ hlt
      obtain ⟨z, hz, rfl⟩ := zs_at hu
      have hzin := hl z (List.mem_of_getElem? hz)
      have HZ := Lib.hid hz
      clear hu hz
      have hvl := vbs_length ((htD L).take k)
      have hvn := vb_length N
      have htl : ((htD L).take k).length ≤ k := by rw [List.length_take]; omega
      have hwl : (vb N ++ vbs ((htD L).take k)).length ≤ 655370 := by rw [List.length_append]; omega
      by_cases hk0 : k = 0
      · have hzg := (zg_int hzin).2
        have hnk : ¬ 0 < k := by omega
        have HST : Hid (vbs ((htD L).take (k + 1)) = vbs ((htD L).take k) ++ vb (zg z)) := Lib.hid (vbs_step (by rw [hk0]; exact htD_zero (hk0 ▸ HZ.out)))
        clear hk0
        go_wp2_with fail
        refine (zigN_any z wr hzin).mono ?_
        rintro e w' ⟨rfl, rfl⟩
        go_wp2_with fail
        refine (putVar_any none 0 0 (zg z) [] wr hzg Reads.none_ (by simp) (by omega)).mono ?_
        intro e2 w2 hN2
        obtain ⟨A2, c2, rfl, _, hr2, hb2⟩ := hN2.opened
        rw [Nat.zero_add, List.nil_append] at hr2
        simp only [Nat.zero_add]
        have hg2 : (vb (zg z)).length ≤ 10 := (vb_length (zg z)).2
        have hown2 := own_below hown hb2
        have hb02 := hb.trans (hb2.mono hb.size)
        go_wp2_with (at_builtin
                     refine wpList_append_any _ rfl (.tmp 31) (.tmp 33) _ rfl w.heap.size 5 i0 _ 1 1 Tryd.underlying23 hi0 hz0 hz1 hz2 rfl (by omega) u3 (vb N ++ vbs ((htD L).take k)).length (bs (vb N ++ vbs ((htD L).take k))) rfl
                       hown2 w2.heap.size A2 (vb (zg z)).length c2 (bs (vb (zg z))) rfl hr2 (bs_one _) (by unfold maxLen; omega) (by omega) hb02.size ?_
                     intro v3 w3 hown3 hg3 hat3)
        go_round
        case rel =>
          refine ⟨k + 1, by omega, by go_num, ?_, hb02.grown hg3 hb02.size (fun j hj => (hown2.lt j hj).1)⟩
          rw [HST.out, ← List.append_assoc, List.length_append, bs_append]
          exact hown3
        case measure => simp [intOf]; omega
      · obtain ⟨j, hj⟩ : ∃ j, k = j + 1 := ⟨k - 1, by omega⟩
        have hjn : j < N := by omega
        have hk1 : (k : Int) - 1 = (j : Int) := by omega
        obtain ⟨ad2, u2, e2, _, hu2, hc1⟩ := (hr.below hb).at_ hjn
        injection e2 with e2
        subst e2
        obtain ⟨y, hy, rfl⟩ := zs_at hu2
        have hyin := hl y (List.mem_of_getElem? hy)
        have hyz : y < z := by
          have h1 := List.pairwise_iff_getElem.1 HRI.out
          obtain ⟨a1, a2⟩ := List.getElem?_eq_some_iff.1 hy
          obtain ⟨b1, b2⟩ := List.getElem?_eq_some_iff.1 HZ.out
          have := h1 j k a1 b1 (by omega)
          omega
        have hgp : ∃ g, g = (z - y - 1).toNat := ⟨_, rfl⟩
        obtain ⟨g, hg⟩ := hgp
        have HST : Hid (vbs ((htD L).take (k + 1)) = vbs ((htD L).take k) ++ vb g) := Lib.hid (by
          refine vbs_step ?_
          rw [hg, hj]
          exact htD_succ hy (hj ▸ HZ.out))
        have hgl : g < 18446744073709551616 := by unfold In64 at hyin hzin; omega
        have hgi : (g : Int) = z - y - 1 := by omega
        have HX : Hid (IntKind.u64.wrap (IntKind.u64.wrap (wrap64 (z - y)) - 1) = (g : Int)) := Lib.hid (by rw [gap_eq hyin hzin hyz, hg])
        have HJ := Lib.hid hj; have HYZ := Lib.hid hyz; have HIN := Lib.hid (And.intro hyin hzin)
        clear hu2 hy hg hgi hj hyz
        go_wp2_with fail
        refine (zigN_any z wr hzin).mono ?_
        rintro e w' ⟨rfl, rfl⟩
        go_wp2_with fail
        rw [HX.out]
        refine (putVar_any none 0 0 g [] wr hgl Reads.none_ (by simp) (by omega)).mono ?_
        intro e2 w2 hN2
        obtain ⟨A2, c2, rfl, _, hr2, hb2⟩ := hN2.opened
        rw [Nat.zero_add, List.nil_append] at hr2
        simp only [Nat.zero_add]
        have hg2 : (vb g).length ≤ 10 := (vb_length g).2
        have hown2 := own_below hown hb2
        have hb02 := hb.trans (hb2.mono hb.size)
        go_wp2_with (at_builtin
                     refine wpList_append_any _ rfl (.tmp 31) (.tmp 33) _ rfl w.heap.size 5 i0 _ 1 1 Tryd.underlying23 hi0 hz0 hz1 hz2 rfl (by omega) u3 (vb N ++ vbs ((htD L).take k)).length (bs (vb N ++ vbs ((htD L).take k))) rfl
                       hown2 w2.heap.size A2 (vb g).length c2 (bs (vb g)) rfl hr2 (bs_one _) (by unfold maxLen; omega) (by omega) hb02.size ?_
                     intro v3 w3 hown3 hg3 hat3)
        go_round
        case rel =>
          refine ⟨k + 1, by omega, by go_num, ?_, hb02.grown hg3 hb02.size (fun j hj => (hown2.lt j hj).1)⟩
          rw [HST.out, ← List.append_assoc, List.length_append, bs_append]
          exact hown3
        case measure => simp [intOf]; omega
    · obtain rfl : k = N := by omega
      have hd := HHD.out
      go_wp2_with fail
      go_ret
      rw [List.take_of_length_le (by rw [HHL.out]; exact Nat.le_refl _), ← hd] at hown
      exact ⟨_, rfl, hown, hb⟩
end Go.Proofs.YtppeagjklndidaaDoor
