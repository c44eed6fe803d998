/- Contract of the document's Texts, whole. No condition. -/
import Derived.Deep.RegionLaw
import Derived.Test.YtkopoepoinkpeaaDoorTrTexts
namespace Go.Proofs.YtkopoepoinkpeaaDoor
open Go.RowKit
set_option linter.unusedVariables false
set_option linter.unusedSimpArgs false
set_option maxRecDepth 100000
attribute [local go_sem ↓] Go.wp_at_zero Go.wp_at_succ

set_option maxHeartbeats 8000000 in
theorem refTexts_any : ∀ N, TextsC N := by
  intro N
  induction N using Nat.strongRecOn with
  | _ N ih =>
    intro ls A c w hN hmax hp hbt hlong hc
    by_cases hs : N < 2
    · exact texts_small N ls A c w hN hs hp hlong
    · obtain ⟨i0, hi0, hz0, hz1, hz2⟩ := info_parts info_bytes
      have h2 : 2 ≤ N := by omega
      have hk1 := spl_lt h2
      have hk2 := spl_pos h2
      obtain ⟨b, o, rfl, _⟩ := hp.plain (by rw [hN]; omega)
      have HSP := Lib.hid (refSplit_any (N : Int) w (by omega) (by omega))
      rw [Int.toNat_natCast] at HSP
      have htd := textsD_two (l := ls) (by rw [hN]; exact h2)
      rw [hN] at htd
      rw [htd]
      have hl1 := hp.fore (k := spl N) (by rw [hN]; omega)
      have hl2 := hp.cut (k := spl N) (cap := c) (by rw [hN]; omega) (by rw [hN]; exact hc)
      rw [if_neg (by omega)] at hl2
      have hn1 : (ls.take (spl N)).length = spl N := by rw [List.length_take, hN]; omega
      have hn2 : (ls.drop (spl N)).length = N - spl N := by rw [List.length_drop, hN]
      have hb1 : ∀ l ∈ ls.take (spl N), ∀ b ∈ l, b < 256 := fun l hl => hbt l (List.mem_of_mem_take hl)
      have hb2 : ∀ l ∈ ls.drop (spl N), ∀ b ∈ l, b < 256 := fun l hl => hbt l (List.mem_of_mem_drop hl)
      have hg1 : ∀ l ∈ ls.take (spl N), l.length ≤ 1000000 := fun l hl => hlong l (List.mem_of_mem_take hl)
      have hg2 : ∀ l ∈ ls.drop (spl N), l.length ≤ 1000000 := fun l hl => hlong l (List.mem_of_mem_drop hl)
      obtain ⟨k, hk⟩ : ∃ k, spl N = k := ⟨_, rfl⟩
      rw [hk] at hk1 hk2 hl1 hl2 hn1 hn2 hb1 hb2 hg1 hg2 HSP ⊢
      have hl3 : LC w (some ⟨b, o + k, none⟩) (ls.drop k) := by simpa [plain_add] using hl2
      obtain ⟨l1, e1⟩ : ∃ l1, ls.take k = l1 := ⟨_, rfl⟩
      obtain ⟨l2, e2⟩ : ∃ l2, ls.drop k = l2 := ⟨_, rfl⟩
      rw [e1] at hl1 hn1 hb1 hg1 ⊢
      rw [e2] at hl3 hn2 hb2 hg2 ⊢
      have hc1 := (textsD_count k l1 hn1).1
      have hc2 := (textsD_count (N - k) l2 hn2).1
      obtain ⟨VA, hVA, haz, hao, hai⟩ := hash_ok (rootL l1) (rootL_len _)
      obtain ⟨VB, hVB, hbz, hbo, hbi⟩ := hash_ok (rootL l2) (rootL_len _)
      have HT1 : Hid (∀ W, Below w.heap.size w W → Calls Tryd.prog 26 #[.slice (some ⟨b, o, none⟩) k c] W (NewT W (textsD l1))) := Lib.hid fun W hW => ih k hk1 l1 _ c W hn1 (by omega) (hl1.next hW) hb1 hg1 (by omega)
      have HT2 : Hid (∀ W, Below w.heap.size w W → Calls Tryd.prog 26 #[.slice (some ⟨b, o + k, none⟩) (N - k) (c - k)] W (NewT W (textsD l2))) := Lib.hid fun W hW => ih (N - k) (by omega) l2 _ (c - k) W hn2 (by omega) (hl3.next hW) hb2 hg2 (by omega)
      have HR1 : Hid (∀ W, Below w.heap.size w W → Calls Tryd.prog 13 #[.slice (some ⟨b, o, none⟩) k c] W fun e w' => e = .returned (.agg VA) ∧ Below W.heap.size W w') := Lib.hid fun W hW => by
        have := refRoot_any k l1 (some ⟨b, o, none⟩) c W hn1 (by omega) (hl1.next hW) hb1 (fun l hl => by have := hg1 l hl; omega) (by omega)
        unfold HashTo at this
        rw [hVA] at this
        exact this
      have HR2 : Hid (∀ W, Below w.heap.size w W → Calls Tryd.prog 13 #[.slice (some ⟨b, o + k, none⟩) (N - k) (c - k)] W fun e w' => e = .returned (.agg VB) ∧ Below W.heap.size W w') := Lib.hid fun W hW => by
        have := refRoot_any (N - k) l2 (some ⟨b, o + k, none⟩) (c - k) W hn2 (by omega) (hl3.next hW) hb2 (fun l hl => by have := hg2 l hl; omega) (by omega)
        unfold HashTo at this
        rw [hVB] at this
        exact this
      have hlen65 : (1 :: (rootL l1 ++ rootL l2)).length = 65 := by rw [List.length_cons, List.length_append, rootL_len, rootL_len]
      obtain ⟨T, hT⟩ : ∃ T, 1 :: (rootL l1 ++ rootL l2) = T := ⟨_, rfl⟩
      have HON : Hid (∀ W, Calls Tryd.prog 38 #[.agg VA, .agg VB] W (New W (bs T) T.length)) := Lib.hid fun W => by
        have := ofNode_any (rootL l1) (rootL l2) W (rootL_len _) (rootL_len _)
        rw [hVA, hVB, hT, ← hlen65, hT] at this
        exact this
      rw [hT] at hlen65 ⊢
      obtain ⟨ts1, hts1⟩ : ∃ ts1, textsD l1 = ts1 := ⟨_, rfl⟩
      obtain ⟨ts2, hts2⟩ : ∃ ts2, textsD l2 = ts2 := ⟨_, rfl⟩
      rw [hts1] at hc1 HT1 ⊢
      rw [hts2] at hc2 HT2 ⊢
      have HLEN := Lib.hid hlen65
      have q1 : (k : Int) ≤ (N : Int) := by omega
      have q2 : (N : Int) ≤ (c : Int) := by omega
      have q3 : (k : Int) ≤ (c : Int) := by omega
      have q4 : ¬ c = k := by omega
      have q5 : ((N : Int) - (k : Int)).toNat = N - k := by omega
      have q6 : ((c : Int) - (k : Int)).toNat = c - k := by omega
      have h0' : ¬ (N : Int) = 0 := by omega
      have h1' : ¬ (N : Int) = 1 := by omega
      clear ih hp hbt hlong hk hl1 hl2 hl3 hn1 hn2 hb1 hb2 hg1 hg2 hVA hVB haz hao hai hbz hbo hbi hlen65 hT hts1 hts2 e1 e2 htd hN
      go_enter Tryd.func26, Tryd.ntmps26
      go_wp2_with fail
      refine HSP.out.mono ?_
      rintro _ _ ⟨rfl, rfl⟩
      go_upto_region 6 with fail
      have B0 := Below.drew (Below.refl w.heap.size w)
      go_region_law (first
        | (go_simp; go_at_call 26
           with_reducible refine (HT1.out _ B0).mono ?_
           rintro e V1 ⟨v1, vs1, rfl, hr1, hv1⟩
           have R1 : RowT V1 w.heap.size v1 vs1 ts1 := hr1
           obtain ⟨A1, c1, rfl, _, _, _⟩ := own_slice R1.1
           have B1 := B0.trans (hv1.mono B0.size)
           clear hr1 hv1
           show _)
        | (go_simp; go_at_call 26
           with_reducible refine (HT2.out _ B1).mono ?_
           rintro e V2 ⟨v2, vs2, rfl, R2, hv2⟩
           obtain ⟨A2, c2, rfl, _, _, hr2⟩ := own_slice R2.1
           have R1' := R1.next hv2
           have U2 : Each (TextIn V2 w.heap.size (Value.slice A1 ts1.length c1).ownBlock) vs2 ts2 := R2.2.imp fun _ _ x => x.off B1.size (fun g hg => (R1.1.lt g hg).2)
           have B2 := B1.trans (hv2.mono B1.size)
           have O2 := R2.one
           clear R2 hv2
           show _)
        | (refine step_append_any _ rfl (.tmp 23) (.tmp 27) _ rfl w.heap.size 37 i0 _ 1 24 Tryd.underlying22 hi0 hz0 hz1 hz2 rfl (by omega) (.slice A1 ts1.length c1) ts1.length vs1 (by simp [Act.eval, Act.put])
             R1'.1 V2.heap.size A2 ts2.length c2 vs2 (by simp [Act.eval, Act.put]) hr2 O2 (by unfold maxLen; omega) (by omega) B2.size ?_
           intro v4 w4 hown4 hg4 hat4))
      have R4 : RowT w4 w.heap.size v4 (vs1 ++ vs2) (ts1 ++ ts2) := R1'.app U2 (by rw [List.length_append]) hown4 hg4 hat4
      have B4 := B2.grown hg4 B2.size (fun g hg => (R1'.1.lt g hg).1)
      obtain ⟨A4, c4, e4, _, _, _⟩ := own_slice R4.1
      subst e4
      have HR4 := Lib.hid R4; have HB4 := Lib.hid B4
      clear hown4 hg4 hat4 R1 R1' U2 O2 hr2 B0 B1 B2 R4 B4
      obtain ⟨tsA, htsA⟩ : ∃ tsA, ts1 ++ ts2 = tsA := ⟨_, rfl⟩
      have hlA : tsA.length ≤ 3000 := by rw [← htsA, List.length_append]; omega
      rw [htsA] at HR4 ⊢
      have HTSA := Lib.hid htsA
      clear htsA
      go_upto_region 7 with fail
      have B0 : Below w.heap.size w w4.drew := Below.drew HB4.out
      have R0 : RowT w4.drew w.heap.size (.slice A4 tsA.length c4) (vs1 ++ vs2) tsA := HR4.out.next (Below.drew (Below.refl _ _))
      go_region_law (first
        | (go_simp; go_at_call 13
           with_reducible refine (HR1.out _ B0).mono ?_
           rintro e V1 ⟨rfl, hv1⟩
           have R1 := R0.next hv1
           have B1 := B0.trans (hv1.mono B0.size)
           clear hv1
           show _)
        | (go_simp; go_at_call 13
           with_reducible refine (HR2.out _ B1).mono ?_
           rintro e V2 ⟨rfl, hv2⟩
           have R2 := R1.next hv2
           have B2 := B1.trans (hv2.mono B1.size)
           clear hv2
           show _)
        | (go_simp; go_at_call 38
           refine (HON.out _).mono ?_
           rintro e V3 ⟨v3, rfl, hown3, hv3⟩
           have U3 : TextIn V3 w.heap.size (Value.slice A4 tsA.length c4).ownBlock v3 T := (TextIn.of_own (own := none) hown3 (by intro g h; cases h)).off B2.size (fun g hg => (R2.1.lt g hg).2)
           obtain ⟨A3, c3, rfl, _, _, _⟩ := own_slice hown3
           have R3 := R2.next hv3
           have B3 := B2.trans (hv3.mono B2.size)
           have R5 := R3.next ((Below.refl V3.heap.size V3).alloc (Nat.le_refl _) (.cells #[.slice A3 T.length c3] 37))
           have U5 := U3.next ((Below.refl V3.heap.size V3).alloc (Nat.le_refl _) (.cells #[.slice A3 T.length c3] 37))
           have B5 := B3.alloc B3.size (.cells #[.slice A3 T.length c3] 37)
           clear hv3 hown3
           show _)
        | (refine step_append_any _ rfl (.tmp 29) (.tmp 39) _ rfl w.heap.size 37 i0 _ 1 24 Tryd.underlying22 hi0 hz0 hz1 hz2 rfl (by omega) (.slice A4 tsA.length c4) tsA.length (vs1 ++ vs2) (by simp [Act.eval, Act.put])
             R5.1 (V3.heap.size + 1) (some ⟨V3.heap.size, 0, none⟩) 1 1 [.slice A3 T.length c3] (by simp [Act.eval, Act.put]) (Reads.new V3 _ _) (by intro u hu; simp at hu; subst hu; rfl) (by unfold maxLen; omega) (by omega) B5.size ?_
           intro v6 w6 hown6 hg6 hat6))
      have R6 : RowT w6 w.heap.size v6 ((vs1 ++ vs2) ++ [.slice A3 T.length c3]) (tsA ++ [T]) := R5.app ⟨U5, trivial⟩ (by rw [List.length_append]; rfl) hown6 hg6 hat6
      have B6 := B5.grown hg6 B5.size (fun g hg => (R5.1.lt g hg).1)
      obtain ⟨A6, c6, e6, _, _, _⟩ := own_slice R6.1
      subst e6
      have HR6 := Lib.hid R6; have HB6 := Lib.hid B6
      clear hown6 hg6 hat6 R0 R1 R2 R3 R5 U3 U5 B0 B1 B2 B3 B5 R6 B6
      go_wp2_with fail
      go_ret
      exact ⟨.slice A6 (tsA ++ [T]).length c6, _, rfl, by rw [HTSA.out]; exact HR6.out, HB6.out⟩
end Go.Proofs.YtkopoepoinkpeaaDoor
