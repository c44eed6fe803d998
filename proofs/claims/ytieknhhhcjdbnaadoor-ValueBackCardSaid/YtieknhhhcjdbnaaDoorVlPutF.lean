/- Contract of package value's form: a value's form, in new memory. -/
import Derived.Test.YtieknhhhcjdbnaaDoorJ12
import Derived.Test.YtieknhhhcjdbnaaDoorVlWrap
import Derived.Test.YtieknhhhcjdbnaaDoorJ18
import Derived.Test.YtieknhhhcjdbnaaDoorTxConv
import Derived.Test.YtieknhhhcjdbnaaDoorOwnNew
import Derived.Test.YtieknhhhcjdbnaaDoorJ24
import Derived.Test.YtieknhhhcjdbnaaDoorNum
import Derived.Test.YtieknhhhcjdbnaaDoorBlob
import Derived.Test.YtieknhhhcjdbnaaDoorZigN
namespace Go.Proofs.YtieknhhhcjdbnaaDoor
open Go.RowKit
set_option linter.unusedVariables false
set_option linter.unusedSimpArgs false
set_option maxRecDepth 100000

set_option maxHeartbeats 1000000 in
theorem form_any (v : Vl) (w : World) (hi : In64 v.2.1) (hq : v.2.2.length ≤ 140737488355200) :
    Calls Tryd.prog 46 #[vW v] w (New w (bs (vB v)) (vB v).length) := by
  obtain ⟨v0, v1, z⟩ := v
  have hq : z.length ≤ 140737488355200 := hq
  have hw8 := u8_mod v0
  obtain ⟨k, hk⟩ : ∃ k : Nat, (v0 % 256).toNat = k := ⟨_, rfl⟩
  rw [hk] at hw8
  have h1 : v0 = 1 → vB (v0, v1, z) = [k] ++ vb (zg v1) := fun h => by unfold vB; rw [if_pos h, ← hk]; rfl
  have h2 : v0 = 2 → vB (v0, v1, z) = [k] ++ blob (nb z) := fun h => by subst h; rw [← hk]; unfold blob; rw [blob_nb]; rfl
  have h3 : v0 ≠ 1 → v0 ≠ 2 → vB (v0, v1, z) = [k] := fun h h' => by unfold vB; rw [if_neg h, if_neg h', ← hk]
  obtain ⟨L, hL⟩ : ∃ L, vB (v0, v1, z) = L := ⟨_, rfl⟩
  rw [hL] at h1 h2 h3 ⊢
  have hv : vW (v0, v1, z) = .agg #[.int .i64 v0, .int .i64 v1, .string ⟨z.toArray⟩] := rfl
  rw [hv]
  clear hv hk hL
  have hB : Below w.heap.size w (w.alloc (.cells #[.int .i64 v0, .int .i64 v1, .string ⟨z.toArray⟩] 31)) := (Below.refl _ _).alloc (Nat.le_refl _) _
  have hown0 := own_new (w.alloc (.cells #[.int .i64 v0, .int .i64 v1, .string ⟨z.toArray⟩] 31)) #[.int .u8 (k : Int)] 1 5 (bs [k]) (by unfold maxLen; omega) rfl (by simp [bs])
  have hB2 := hB.alloc hB.size (.cells #[.int .u8 (k : Int)] 5)
  have hs1 : (w.alloc (.cells #[.int .i64 v0, .int .i64 v1, .string ⟨z.toArray⟩] 31)).heap.size = w.heap.size + 1 := by simp
  have hs2 : ((w.alloc (.cells #[.int .i64 v0, .int .i64 v1, .string ⟨z.toArray⟩] 31)).alloc (.cells #[.int .u8 (k : Int)] 5)).heap.size = w.heap.size + 2 := by simp
  rw [hs1] at hown0
  have hrd := Reads.of_own hown0
  have HO := Lib.hid hown0
  have HB2 := Lib.hid hB2
  have HS2 := Lib.hid hs2
  have HR := Lib.hid hrd
  clear hown0 hB2 hs1 hs2 hrd
  go_enter Tryd.func46, Tryd.ntmps46
  by_cases k1 : v0 = 1
  · have HL := Lib.hid (h1 k1)
    subst k1
    have hxg := (zg_int hi).2
    have hvl := (vb_length (zg v1)).2
    clear h1 h2 h3
    go_wp2_with fail
    refine (zigN_any v1 _ hi).mono ?_
    rintro e w1 ⟨rfl, rfl⟩
    go_wp2_with fail
    refine (putVar_any (some ⟨w.heap.size + 1, 0, none⟩) 1 1 (zg v1) (bs [k]) _ hxg HR.out (bs_one _) (by omega)).mono ?_
    rintro e2 w2 ⟨v2, rfl, hown2, hb2⟩
    go_wp2_with fail
    go_ret
    rw [HL.out, bs_append, List.length_append]
    exact ⟨v2, rfl, own_base hown2 (by rw [HS2.out]; omega), HB2.out.trans (hb2.mono (by rw [HS2.out]; omega))⟩
  · by_cases k2 : v0 = 2
    · have HL := Lib.hid (h2 k2)
      subst k2
      have q1 : ((2 : Int) == 1) = false := rfl
      obtain ⟨W0, hW0⟩ : ∃ W0, W0 = (w.alloc (.cells #[.int .i64 2, .int .i64 v1, .string ⟨z.toArray⟩] 31)).alloc (.cells #[.int .u8 (k : Int)] 5) := ⟨_, rfl⟩
      have hcv := conv_is z
      have hbc := conv_below W0 z
      have hrc := conv_reads W0 z
      have hrr := (show Reads W0 W0.heap.size 1 (some ⟨w.heap.size + 1, 0, none⟩) 1 (bs [k]) by rw [hW0]; exact HR.out).next hbc
      rw [hW0] at hbc hrr
      rw [hW0, HS2.out] at hrc
      have HBC := Lib.hid hbc
      clear h1 h2 h3 hW0 hbc
      go_wp2_with fail
      refine (putBlob_any (some ⟨w.heap.size + 1, 0, none⟩) _ 1 1 z.length _ (bs [k]) (nb z) _ hrr (bs_one _) hrc (by omega)).mono ?_
      rintro e2 w2 ⟨v2, rfl, hown2, hb2⟩
      have hb3 := HBC.out.trans (hb2.mono HBC.out.size)
      have hown3 := own_base hown2 HBC.out.size
      clear hcv hrc hrr hb2 hown2
      go_wp2_with fail
      go_ret
      rw [HL.out, bs_append, List.length_append]
      exact ⟨v2, rfl, own_base hown3 (by rw [HS2.out]; omega), HB2.out.trans (hb3.mono (by rw [HS2.out]; omega))⟩
    · have HL := Lib.hid (h3 k1 k2)
      have q1 : (v0 == 1) = false := by simp [k1]
      have q2 : (v0 == 2) = false := by simp [k2]
      clear h1 h2 h3 k1 k2
      go_wp2_with fail
      go_ret
      rw [HL.out]
      exact ⟨_, rfl, own_base HO.out (by omega), HB2.out⟩
end Go.Proofs.YtieknhhhcjdbnaaDoor
