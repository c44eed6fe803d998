/- Contract of the document's Put of one value. -/
import Derived.Test.YtieknhhhcjdbnaaVlForm
import Derived.Test.YtieknhhhcjdbnaaJ30
import Derived.Test.YtieknhhhcjdbnaaJ18
import Derived.Test.YtieknhhhcjdbnaaJ40
import Derived.Test.YtieknhhhcjdbnaaJ33
namespace Go.Proofs.Ytieknhhhcjdbnaa
open Go.RowKit
set_option linter.unusedVariables false
set_option linter.unusedSimpArgs false
set_option maxRecDepth 100000

theorem refZigV_any (z : Int) (w : World) (h : In64 z) : Calls Try.prog 33 #[.int .i64 z] w fun e w' => e = .returned (.int .u64 (zg z : Int)) ∧ w = w' := by
  rw [← (zg_int h).1]; exact refZig_any z w h.1 h.2
set_option maxHeartbeats 1000000 in
theorem refVlPut_any (v : Vl) (w : World) (hi : In64 v.2.1) (hq : v.2.2.length ≤ 140737488355300) :
    Calls Try.prog 18 #[vW v] w (New w (bs (vB v)) (vB v).length) := by
  obtain ⟨i0, hi0, hz0, hz1, hz2⟩ := info_parts info_u8
  obtain ⟨v0, v1, z⟩ := v
  have hq : z.length ≤ 140737488355300 := hq
  have hw8 := u8_mod v0
  obtain ⟨k, hk⟩ : ∃ k : Nat, (v0 % 256).toNat = k := ⟨_, rfl⟩
  rw [hk] at hw8
  have h1 : v0 = 1 → vB (v0, v1, z) = k :: vb (zg v1) := fun h => by unfold vB; rw [if_pos h, ← hk]
  have h2 : v0 = 2 → vB (v0, v1, z) = k :: blbT z := fun h => by subst h; rw [← hk]; rfl
  have h3 : v0 ≠ 1 → v0 ≠ 2 → vB (v0, v1, z) = [k] := fun h h' => by unfold vB; rw [if_neg h, if_neg h', ← hk]
  obtain ⟨L, hL⟩ : ∃ L, vB (v0, v1, z) = L := ⟨_, rfl⟩
  rw [hL] at h1 h2 h3 ⊢
  have hv : vW (v0, v1, z) = .agg #[.int .i64 v0, .int .i64 v1, .string ⟨z.toArray⟩] := rfl
  rw [hv]
  clear hv hk hL
  have hB : Below w.heap.size w (w.alloc (.cells #[.int .i64 v0, .int .i64 v1, .string ⟨z.toArray⟩] 23)) := (Below.refl _ _).alloc (Nat.le_refl _) _
  have hown0 := own_new (w.alloc (.cells #[.int .i64 v0, .int .i64 v1, .string ⟨z.toArray⟩] 23)) #[.int .u8 (k : Int)] 1 5 (bs [k]) (by unfold maxLen; omega) rfl (by simp [bs])
  have hB2 := hB.alloc hB.size (.cells #[.int .u8 (k : Int)] 5)
  have hs1 : (w.alloc (.cells #[.int .i64 v0, .int .i64 v1, .string ⟨z.toArray⟩] 23)).heap.size = w.heap.size + 1 := by simp
  have hs2 : ((w.alloc (.cells #[.int .i64 v0, .int .i64 v1, .string ⟨z.toArray⟩] 23)).alloc (.cells #[.int .u8 (k : Int)] 5)).heap.size = w.heap.size + 2 := by simp
  rw [hs1] at hown0
  have HO := Lib.hid hown0
  have HB2 := Lib.hid hB2
  have HS2 := Lib.hid hs2
  have HBK := Lib.hid ((Blk.new w 23 #[.int .i64 v0, .int .i64 v1, .string ⟨z.toArray⟩]).alloc (.cells #[.int .u8 (k : Int)] 5))
  clear hown0 hB2 hs1 hs2
  go_enter Try.func18, Try.ntmps18
  by_cases k1 : v0 = 1
  · have HL := Lib.hid (h1 k1)
    subst k1
    have hxg := (zg_int hi).2
    have hvl := (vb_length (zg v1)).2
    clear h1 h2 h3
    go_wp2_with fail
    refine (refZigV_any v1 _ hi).mono ?_
    rintro e w1 ⟨rfl, rfl⟩
    go_wp2_with fail
    refine (refVar_any (zg v1) _ hxg).mono ?_
    intro e2 w2 hN2
    obtain ⟨A2, c2, rfl, _, hr2, hb2⟩ := hN2.opened
    clear hN2
    have hown2 := own_below HO.out hb2
    have hsz := hb2.size
    rw [HS2.out] at hsz
    have hbw := HB2.out.trans (hb2.mono (by rw [HS2.out]; omega))
    have hb21 : Below (w.heap.size + 1) _ _ := hb2.mono (by rw [HS2.out]; omega)
    go_wp2_with (at_builtin
                 refine wpList_append_any _ rfl (.tmp 11) (.tmp 15) _ rfl (w.heap.size + 1) 5 i0 _ 1 1 Try.underlying36 hi0 hz0 hz1 hz2 rfl (by omega) (.slice (some ⟨w.heap.size + 1, 0, none⟩) 1 1) 1 (bs [k]) rfl
                   hown2 w2.heap.size A2 (vb (zg v1)).length c2 (bs (vb (zg v1))) rfl hr2 (bs_one _) (by unfold maxLen; omega) (by omega) (by omega) ?_
                 intro v3 w3 hown3 hg3 hat3
                 have hb3 := hb21.grown hg3 (by omega) (fun j hj => (hown2.lt j hj).1)
                 have cx3 := (HBK.out.below hb3 (by omega)).cell 0
                 simp only [List.getElem?_toArray, List.getElem?_cons_zero] at cx3
                 clear hb3)
    go_ret
    rw [HL.out]
    refine ⟨v3, rfl, ?_, hbw.grown hg3 (by omega) (fun j hj => ?_)⟩
    · have := own_base hown3 (show w.heap.size ≤ w.heap.size + 1 by omega)
      rw [← bs_append] at this
      simpa [Nat.add_comm] using this
    · have := (hown2.lt j hj).1; omega
  · by_cases k2 : v0 = 2
    · have HL := Lib.hid (h2 k2)
      subst k2
      have hbl : (blbT z).length ≤ 140737488355310 := by have := blbT_length (s := z); omega
      have HBZ := Lib.hid (blob_nb z)
      obtain ⟨W0, hW0⟩ : ∃ W0, W0 = (w.alloc (.cells #[.int .i64 2, .int .i64 v1, .string ⟨z.toArray⟩] 23)).alloc (.cells #[.int .u8 (k : Int)] 5) := ⟨_, rfl⟩
      have hcv := conv_is z
      have hbc := conv_below W0 z
      have hrc := conv_reads W0 z
      rw [hW0] at hbc
      rw [hW0, HS2.out] at hrc
      clear h1 h2 h3 hW0
      go_wp2_with fail
      refine (refBlobP_any _ z.length _ (nb z) _ hrc (by omega)).mono ?_
      intro e2 w2 hN2
      obtain ⟨A2, c2, rfl, _, hr2, hb2⟩ := hN2.opened
      rw [HBZ.out] at hr2
      rw [HBZ.out]
      have hb3 := hbc.trans (hb2.mono hbc.size)
      have hown2 := own_below HO.out hb3
      have hsz := hb3.size
      rw [HS2.out] at hsz
      have hbw := HB2.out.trans (hb3.mono (by rw [HS2.out]; omega))
      clear hcv hbc hrc hb2 hN2
      go_wp2_with (at_builtin
                   refine wpList_append_any _ rfl (.tmp 20) (.tmp 24) _ rfl (w.heap.size + 1) 5 i0 _ 1 1 Try.underlying36 hi0 hz0 hz1 hz2 rfl (by omega) (.slice (some ⟨w.heap.size + 1, 0, none⟩) 1 1) 1 (bs [k]) rfl
                     hown2 w2.heap.size A2 (blbT z).length c2 (bs (blbT z)) rfl hr2 (bs_one _) (by unfold maxLen; omega) (by omega) (by omega) ?_
                   intro v3 w3 hown3 hg3 hat3)
      go_ret
      rw [HL.out]
      refine ⟨v3, rfl, ?_, hbw.grown hg3 (by omega) (fun j hj => ?_)⟩
      · have := own_base hown3 (show w.heap.size ≤ w.heap.size + 1 by omega)
        rw [← bs_append] at this
        simpa [Nat.add_comm] using this
      · have := (hown2.lt j hj).1; omega
    · have HL := Lib.hid (h3 k1 k2)
      clear h1 h2 h3
      go_wp2_with fail
      go_ret
      rw [HL.out]
      exact ⟨_, rfl, own_base HO.out (by omega), HB2.out⟩
end Go.Proofs.Ytieknhhhcjdbnaa
